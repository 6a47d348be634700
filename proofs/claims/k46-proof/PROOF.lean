import PyProof.Rows.All
import Wide.All
import OpenK.AllK
import Wide.FinOn
import PyProof.EqAt
import PyProof.EqKinds
import PyProof.TupleCall
import KE.GoesEnum
import HandS.Base
import HandS.Call
import HandS.List
import HandS.Comp
import HandS.Iter
import HandS.Evl
import HandS.Lambda
import HandS.Words
import HandS.Conv
import HandS.TupAny
import HandS.TupMul
import HandS.IsInst
import HandS.Wide
import HandS.RevRange
import HandS.SortInts
import PyProof.IsRules
import HandS.OwnEq
import HandS.More
import PyProof.InstNe
import HandS.FStr
import HandS.Text
import KE.KCallOwn
import HandS.Star
import HandS.TupSets
import HandS.Small
import HandS.StrMore
import HandS.TupLe
import HandS.ReplaceLit
import HandS.Codes
import HandS.Exc
import HandS.ExcOwn
import HandS.ExcInit
import HandS.ExcField
import HandS.TryMany
import HandS.WordsExc
import HandS.RaiseMore
import HandS.EndTab
import KE.KExcInit
import PyProof.ExcBaseAll.IndexError
import PyProof.ExcBaseAll.OverflowError
import PyProof.ExcBaseAll.ArithmeticError
import PyProof.ExcBaseAll.LookupError
import HandS.CallLocal
import HandS.EndBits
import KE.KNestM
import PyProof.StrBlock2
import PyProof.ReprRoads
import HandS.Gcd
import HandS.WideBits
import HandS.Flow
import HandS.TryOnly
import KE.KTupSum
import KE.DataAny
import HandS.Deep
import HandS.DictTup
import KE.SortData
import KE.DataMinMax
import HandS.SortKw
import HandS.Style
import PySem.Challenge.RW_rampworks_k46_errors_of_fans
set_option Elab.async false
set_option linter.all false
set_option maxRecDepth 100000
set_option maxHeartbeats 4000000
namespace RW
open PySem PySem.Spec PyProof.Rows L2

/-- a sequence at a: a list (true), a tuple (false) -/
def Sq (K : PySem.W.Frag) (k : Bool) (H : Hp) (a : Addr) (xs : List V) : Prop := match k with
  | true => SqL K H a xs
  | false => SqT K H a xs
def itAt (k : Bool) (h : Heap) (it a : Addr) (i : Nat) : Prop := match k with
  | true => h.IsListIter it a i
  | false => h.IsTupleIter it a i
def seqAt (k : Bool) (h : Heap) (a : Addr) (its : Array Value) : Prop := match k with
  | true => h.IsList a its
  | false => h.IsTuple a its
def itObj (k : Bool) (a : Addr) : Obj := match k with
  | true => { cls := .type "list_iterator", data := .fields #[.ref a, .int 0 0] }
  | false => { cls := .type "tuple_iterator", data := .fields #[.ref a, .int 0 0] }
theorem itAt.there {k : Bool} {h : Heap} {it a : Addr} {i : Nat} (x : itAt k h it a i) : ∃ o, h.get? it = some o ∧ ∀ v, o.data ≠ .cell v := by
  cases k with
  | true => obtain ⟨o, e, c, d⟩ := x; exact ⟨o, e, fun v z => by rw [d] at z; cases z⟩
  | false => obtain ⟨o, e, c, d⟩ := x; exact ⟨o, e, fun v z => by rw [d] at z; cases z⟩
theorem itAt.at {k : Bool} {h h' : Heap} {it a : Addr} {i : Nat} (x : itAt k h it a i) (s : ∀ o, h.get? it = some o → h'.get? it = some o) : itAt k h' it a i := by
  cases k with
  | true => exact Heap.IsListIter.at x s
  | false => exact Heap.IsTupleIter.at x s
theorem draws_k {prog : Program} {w : World} {A : Around} (hh : A.handled = none) (k : Bool) (it t : Addr) (hne : t ≠ it) (items : Array Value) :
    Draws prog w A it [it, t] items.size (fun i v => items[i]? = some v) (fun i h => itAt k h it t i ∧ seqAt k h t items) := by
  cases k with
  | true => exact Draws.list hh it t hne items
  | false => exact Draws.tuple hh it t hne items
theorem begins_k (k : Bool) (t : Addr) (items : Array Value) : Begins (.ref t) (itObj k t) fun h => seqAt k h t items := by
  cases k with
  | true => exact begins_list t items
  | false => exact begins_tuple t items
theorem itAt_new {k : Bool} {h : Heap} {it a : Addr} (e : h.get? it = some (itObj k a)) : itAt k h it a 0 := by
  cases k with
  | true => exact ⟨_, e, rfl, rfl⟩
  | false => exact ⟨_, e, rfl, rfl⟩
section
variable {X : Cx} {pins : List (Addr × Obj)} {σ : L2.St} {H : Hp} {s : Shared} {k : Bool} {a : Addr} {xs ys : List V}
theorem inv_seq (I : Inv X pins σ H s) (h : Sq X.K k H a xs) : ∃ its : List Value, Vals xs its ∧ seqAt k s.heap a its.toArray := by
  cases k with
  | true =>
    obtain ⟨its, rv, p, _⟩ := I.list h
    exact ⟨its, rv, p.isList⟩
  | false =>
    obtain ⟨its, rv, p, _⟩ := I.tuple h
    exact ⟨its, rv, p⟩
theorem inv_inj (I : Inv X pins σ H s) (h : Sq X.K k H a xs) (h' : Sq X.K k H a ys) : xs = ys := by
  cases k with
  | true => exact I.list_inj h h'
  | false => exact I.tuple_inj h h'
theorem seqAt.lt {k : Bool} {h : Heap} {a : Addr} {its : Array Value} (x : seqAt k h a its) : a < h.objs.size := by
  cases k with
  | true => obtain ⟨o, e, _⟩ := x; exact Heap.lt_size e
  | false => obtain ⟨o, e, _⟩ := x; exact Heap.lt_size e
end

/-! ### a list or a tuple, walked -/
def ItS (K : PySem.W.Frag) (k : Bool) (a : Addr) : It := match k with
  | true => Itl K a
  | false => Itt K a
def iSeq (K : PySem.W.Frag) (tl : TE) : TI := fun σ H R => tl σ H fun x H1 => ∃ a k, x = .ref a ∧ (∃ xs, Sq K k H1 a xs) ∧ R (ItS K k a) H1
theorem pi_seq {X : Cx} {tg l : Expr} {tl : TE} (hl : PE X l tl) : PI X tg l (iSeq X.K tl) := by
  refine ⟨fun pins s σ H R I h => ?_⟩
  refine thn (hl.run pins s σ H _ I h) fun v s1 ⟨x, H1, I1, r1, q1⟩ => ?_
  obtain ⟨a, k, e, ⟨xs, hq⟩, q⟩ := q1
  subst e
  cases r1
  obtain ⟨its, rv, p⟩ := inv_seq I1 hq
  cases k with
  | true =>
    refine wpAny_pyIter_list p ?_
    refine ⟨s1.heap.objs.size, [s1.heap.objs.size], _, _, H1, rfl, I1.kept (t' := s1.toks) fun b o e => Heap.get?_push_of_some _ e, turn_list a _, ⟨_, Heap.get?_push_size _ rfl, rfl, rfl⟩, fun b hb => ?_, q⟩
    have e : b = s1.heap.objs.size := by simpa using hb
    subst e
    exact I1.fpOk (Nat.le_refl _) (I1.hok.fresh (Nat.le_refl _))
  | false =>
    refine wpAny_pyIter_tuple p ?_
    refine ⟨s1.heap.objs.size, [s1.heap.objs.size], _, _, H1, rfl, I1.kept (t' := s1.toks) fun b o e => Heap.get?_push_of_some _ e, turn_tuple a _, ⟨_, Heap.get?_push_size _ rfl, rfl, rfl⟩, fun b hb => ?_, q⟩
    have e : b = s1.heap.objs.size := by simpa using hb
    subst e
    exact I1.fpOk (Nat.le_refl _) (I1.hok.fresh (Nat.le_refl _))

/-! ### zip of two sequences -/
def ItzG (K : PySem.W.Frag) (k1 k2 : Bool) (a b : Addr) : It :=
  ⟨fun i H => ∃ (xs ys : List V) (x y : V), Sq K k1 H a xs ∧ Sq K k2 H b ys ∧ xs[i]? = some x ∧ ys[i]? = some y,
    fun i H v H' => ∃ T x y, v = .ref T ∧ H T = none ∧ H' = upd H T (.tup [x, y]) ∧ (∀ xs, Sq K k1 H a xs → xs[i]? = some x) ∧ ∀ ys, Sq K k2 H b ys → ys[i]? = some y,
    fun i H => ∃ xs ys : List V, Sq K k1 H a xs ∧ Sq K k2 H b ys ∧ i ≤ xs.length ∧ i ≤ ys.length ∧ (xs.length ≤ i ∨ ys.length ≤ i)⟩
theorem turn_zipG {P : Program} {w : World} {K : PySem.W.Frag} {elts : List Expr} {kk : Nat} {tpos : Pos} {k1 k2 : Bool} {a b z TI TO i1 i2 : Addr} (D : ZipSep2 z TI TO i1 i2 [i1, a] [i2, b]) (n1 : a ≠ i1) (n2 : b ≠ i2) :
    Turn P w K (.Tuple elts kk tpos) (ItzG K k1 k2 a b) [z, TI, TO, i1, i2] z (fun i h => IsZip h z TI TO .none ∧ IsTupOf2 h TI (.ref i1) (.ref i2) ∧ (∃ x y, IsTupOf2 h TO x y) ∧ itAt k1 h i1 a i ∧ itAt k2 h i2 b i) where
  mem := by simp
  obj := fun i h st c hc => by
    obtain ⟨hz, hTI, ⟨x, y, hTO⟩, h1, h2⟩ := st
    have e' : c = z ∨ c = TI ∨ c = TO ∨ c = i1 ∨ c = i2 := by simpa using hc
    rcases e' with q | q | q | q | q
    · rw [q]; exact ⟨_, hz, fun v q => nomatch q⟩
    · rw [q]; exact ⟨_, hTI, fun v q => nomatch q⟩
    · rw [q]; exact ⟨_, hTO, fun v q => nomatch q⟩
    · rw [q]; exact h1.there
    · rw [q]; exact h2.there
  keep := fun i h h' st k => by
    obtain ⟨hz, hTI, ⟨x, y, hTO⟩, h1, h2⟩ := st
    exact ⟨k z (by simp) _ hz, k TI (by simp) _ hTI, ⟨x, y, k TO (by simp) _ hTO⟩, h1.at fun o q => k i1 (by simp) o q, h2.at fun o q => k i2 (by simp) o q⟩
  item := by
    intro X hP hw hK hc i pins s σ H E I hf st hg
    subst hP hw hK
    obtain ⟨hz, hTI, ⟨x0, y0, hTO⟩, h1, h2⟩ := st
    obtain ⟨xs, ys, x, y, hqx, hqy, hx, hy⟩ := hg
    obtain ⟨its, rv, p⟩ := inv_seq I hqx
    obtain ⟨its2, rv2, p2⟩ := inv_seq I hqy
    obtain ⟨u, hu, ru⟩ := rv.get hx
    obtain ⟨u2, hu2, ru2⟩ := rv2.get hy
    have hzl : z < s.heap.objs.size := Heap.lt_size hz
    have hh : X.A.in1.handled = none := I.ok.hd hc
    have l1 : i < its.toArray.size := by
      have := (List.getElem?_eq_some_iff.mp hu).1
      simpa using this
    have l2 : i < its2.toArray.size := by
      have := (List.getElem?_eq_some_iff.mp hu2).1
      simpa using this
    refine wpAny_pyNext_zipD2_item D (draws_k hh k1 i1 a n1 its.toArray) (draws_k hh k2 i2 b n2 its2.toArray) hz hTI hTO ⟨h1, p⟩ ⟨h2, p2⟩ l1 l2 fun v1 v2 h' tk e1 e2 z' TO' h1' h2' hT hsz hk => ?_
    have e1' : v1 = u := by
      have q : its[i]? = some v1 := by simpa using e1
      rw [hu] at q
      exact (Option.some.inj q).symm
    have e2' : v2 = u2 := by
      have q : its2[i]? = some v2 := by simpa using e2
      rw [hu2] at q
      exact (Option.some.inj q).symm
    subst e1' e2'
    refine ⟨_, rfl, wpAny_letOwnedTupleGo_zip (s := { s with heap := h', toks := tk }) z' fun h'' z'' sb => ?_⟩
    have hT2 : h''.get? s.heap.objs.size = some { cls := .type "tuple", data := .seq #[v1, v2] } := (sb.2 _ (Nat.ne_of_gt hzl)).trans hT
    have new : ObjOk X.prog X.w (upd H s.heap.objs.size (.tup [x, y])) h'' s.heap.objs.size (.tup [x, y]) :=
      ⟨by show 2 ≤ sizeLine; decide, [v1, v2], .cons ru (.cons ru2 .nil), ⟨_, hT2, rfl, _, rfl⟩⟩
    have I1 : Inv X pins σ (upd H s.heap.objs.size (.tup [x, y])) { s with heap := h'', toks := tk } :=
      I.turnedNew (t' := tk) (ch := [z, TI, TO, i1, i2]) (fun c o hb q => (sb.2 c (fun q' => hb (by simp [q']))).trans (hk c o (fun q' => hb (by simp [q'])) (fun q' => hb (by simp [q'])) (fun q' => hb (by simp [q'])) (fun q' => hb (by simp [q'])) q)) hf (Nat.le_refl _) new
    refine ⟨.ref s.heap.objs.size, _, I1, rfl, ⟨_, x, y, rfl, I.hok.fresh (Nat.le_refl _), rfl, fun l hl => by rw [inv_inj I hl hqx]; exact hx, fun l hl => by rw [inv_inj I hl hqy]; exact hy⟩, ⟨z'', ?_, ⟨v1, v2, ?_⟩, ?_, ?_⟩, fun c hcm => ?_⟩
    · exact (sb.2 _ D.TIz).trans (hk _ _ D.TIz D.TITO D.TIi1 D.TIi2 hTI)
    · exact (sb.2 _ D.TOz).trans TO'
    · exact h1'.1.at fun o q => (sb.2 _ (Ne.symm D.zi1)).trans q
    · exact h2'.1.at fun o q => (sb.2 _ (Ne.symm D.zi2)).trans q
    · have hlt : c < s.heap.objs.size := by
        have e' : c = z ∨ c = TI ∨ c = TO ∨ c = i1 ∨ c = i2 := by simpa using hcm
        rcases e' with q | q | q | q | q
        · rw [q]; exact hzl
        · rw [q]; exact Heap.lt_size hTI
        · rw [q]; exact Heap.lt_size hTO
        · rw [q]; obtain ⟨_, e1, _⟩ := h1.there; exact Heap.lt_size e1
        · rw [q]; obtain ⟨_, e2, _⟩ := h2.there; exact Heap.lt_size e2
      rw [upd_ne (Nat.ne_of_lt hlt)]
      exact (hf c hcm).1
  done := by
    intro X hP hw hK hc i pins s σ H E I hf st hg
    subst hP hw hK
    obtain ⟨hz, hTI, ⟨x0, y0, hTO⟩, h1, h2⟩ := st
    obtain ⟨xs, ys, hqx, hqy, le1, le2, hend⟩ := hg
    obtain ⟨its, rv, p⟩ := inv_seq I hqx
    obtain ⟨its2, rv2, p2⟩ := inv_seq I hqy
    have l1 := rv.length
    have l2 := rv2.length
    have hh : X.A.in1.handled = none := I.ok.hd hc
    exact wpAny_pyNext_zipD2_end D (draws_k hh k1 i1 a n1 its.toArray) (draws_k hh k2 i2 b n2 its2.toArray) hz hTI hTO ⟨h1, p⟩ ⟨h2, p2⟩ (by simp; omega) (by simp; omega) (by simp; omega) fun h' tk hk => ⟨rfl, I.turnedL (t' := tk) (ch := [z, TI, TO, i1, i2]) (fun c o hb q =>
      hk c o (fun q' => hb (by simp [q'])) (fun q' => hb (by simp [q'])) (fun q' => hb (by simp [q'])) (fun q' => hb (by simp [q'])) q) hf⟩
  self := fun A i s Q E st h => wpAny_pyIter_zip st.1 h

def iZipG (K : PySem.W.Frag) (ta : TA) : TI := fun σ H R => ta σ H fun vs H1 => ∃ a b k1 k2 xs ys, vs = [.ref a, .ref b] ∧ Sq K k1 H1 a xs ∧ Sq K k2 H1 b ys ∧ R (ItzG K k1 k2 a b) H1
theorem pi_zipG {X : Cx} {e e2 : Expr} {ta : TA} {p pos tpos : Pos} {elts : List Expr} {kk : Nat} (hg : Gl X "zip") (hm : X.mg "zip" = none) (ha : PA X [e, e2] ta)
    (hs : starEach [e, e2] X.env = (false, eval e X.env) :: starEach [e2] X.env := by rfl) (hpl : (backTo pos (starEach [e2] X.env)).any (·.1) = false := by rfl) :
    PI X (.Tuple elts kk tpos) (.Call (.Name "zip" p) [e, e2] [] pos) (iZipG X.K ta) := by
  refine ⟨fun pins s σ H R I h => ?_⟩
  refine Call_ (ld_blt I hg hm PyProof.Rows.boot_zip (PyProof.Rows.callWith_type1 (thn (ha.run pos pins s σ H _ I h) fun us s1 ⟨vs, H1, I1, r1, q1⟩ => ?_) hs hpl))
  obtain ⟨a, b, k1, k2, xs, ys, ex, hqx, hqy, q⟩ := q1
  subst ex
  cases r1 with
  | cons r rr =>
    cases rr with
    | cons r' rr =>
      cases rr
      cases r
      cases r'
      have fresh5 : ∀ c, c ∈ [s1.heap.objs.size + 4, s1.heap.objs.size + 2, s1.heap.objs.size + 3, s1.heap.objs.size, s1.heap.objs.size + 1] → FpOk X pins H1 c := fun c hcm => by
        have e' : c = s1.heap.objs.size + 4 ∨ c = s1.heap.objs.size + 2 ∨ c = s1.heap.objs.size + 3 ∨ c = s1.heap.objs.size ∨ c = s1.heap.objs.size + 1 := by simpa using hcm
        have hle : s1.heap.objs.size ≤ c := by
          rcases e' with z | z | z | z | z
          · rw [z]; exact Nat.le_add_right _ _
          · rw [z]; exact Nat.le_add_right _ _
          · rw [z]; exact Nat.le_add_right _ _
          · rw [z]; exact Nat.le_refl _
          · rw [z]; exact Nat.le_add_right _ _
        exact I1.fpOk hle (I1.hok.fresh hle)
      obtain ⟨its, rv, p1⟩ := inv_seq I1 hqx
      obtain ⟨its2, rv2, p2⟩ := inv_seq I1 hqy
      have ha1 := p1.lt
      have ha2 := p2.lt
      refine zip_begins2 (begins_k k1 a its.toArray) (begins_k k2 b its2.toArray) p1 p2 fun h' hz hTI hTO h1 h2 hsz hk => wpAny_pyIter_zip hz ?_
      have I2 : Inv X pins σ H1 { s1 with heap := h' } := I1.kept (t' := s1.toks) hk
      have S : ZipSep2 (s1.heap.objs.size + 4) (s1.heap.objs.size + 2) (s1.heap.objs.size + 3) s1.heap.objs.size (s1.heap.objs.size + 1) [s1.heap.objs.size, a] [s1.heap.objs.size + 1, b] :=
        zip_sep2 (fp1 := [a]) (fp2 := [b]) (fun c hc => by rw [List.mem_singleton.mp hc]; exact ha1) (fun c hc => by rw [List.mem_singleton.mp hc]; exact ha2)
      exact ⟨s1.heap.objs.size + 4, [s1.heap.objs.size + 4, s1.heap.objs.size + 2, s1.heap.objs.size + 3, s1.heap.objs.size, s1.heap.objs.size + 1], _, _, H1, rfl, I2, turn_zipG S (Nat.ne_of_lt ha1) (Nat.ne_of_lt (Nat.lt_succ_of_lt ha2)), ⟨hz, hTI, ⟨_, _, hTO⟩, itAt_new h1, itAt_new h2⟩, fresh5, q⟩
end RW

set_option Elab.async false
set_option linter.all false
set_option maxRecDepth 100000
set_option maxHeartbeats 4000000
namespace RW
open PySem PySem.Spec PyProof.Rows L2
theorem meets_enumerate_new1 {v : Value} {o : Obj} {H : Heap → Prop} (B : Begins v o H) :
    Meets (Builtin.«enumerate.__new__» ⟨[.type "enumerate", v], []⟩) (fun _ R s => H s.heap ∧
      R (.ok (.ret (.ref (s.heap.push o).objs.size))) { s with heap := (s.heap.push o).push { cls := .type "enumerate", data := .fields #[.none, .bool false, .ref s.heap.objs.size, rawInt 0, .none, .none] } }) :=
  .of_wp fun prog w A R s h => by
    obtain ⟨hp, g, d, tk, os⟩ := s; obtain ⟨h1, h⟩ := h
    have hsub := sub_enumerate
    have q1 : ∀ {A' : Around} {E : Value → Shared → Prop} {Q : Value → Shared → Prop}, Q (.ref hp.objs.size) ⟨hp.push o, g, d, tk, os⟩ → wpAny (model prog w) A' (pyIter v) Q E ⟨hp, g, d, tk, os⟩ :=
      fun q => B.iter prog w _ _ ⟨hp, g, d, tk, os⟩ _ h1 q
    wp_walk using q1
    refine wpAny_stack_any fun st => wpAny_pure ?_
    split
    · rename_i c _ _ _ _ _
      cases (c == Value.type "enumerate")
      · wp_walk using q1
        exact ⟨_, rfl, h⟩
      · wp_walk using q1
        exact ⟨_, rfl, h⟩
    · wp_walk using q1
      exact ⟨_, rfl, h⟩
section
variable {prog : Program} {w : World} {A : Around} {E : Value → Shared → Prop} {s : Shared}
theorem enum_begins1 {v : Value} {o : Obj} {H : Heap → Prop} {Q : Value → Shared → Prop} (B : Begins v o H) (h1 : H s.heap)
    (h : ∀ h', IsEnum h' (s.heap.objs.size + 1) s.heap.objs.size 0 .none → h'.get? s.heap.objs.size = some o → h'.objs.size = s.heap.objs.size + 2 →
      (∀ b o, s.heap.get? b = some o → h'.get? b = some o) → Q (.ref (s.heap.objs.size + 1)) { s with heap := h' }) :
    wpAny (model prog w) A (call (.type "enumerate") [v]) Q E s := by
  refine callType_new F.called_enumerate (by decide) (F.typeCall_enumerate_1 _) (F.newCall_enumerate_1 _) (fun obj => F.args_object_init_2 obj _) F.entry_enumerate_new
    (meets_enumerate_new1 B) ⟨h1, ?_⟩
  have hz : (s.heap.push o).objs.size = s.heap.objs.size + 1 := Heap.size_push ..
  show _ ∧ _
  rw [hz]
  have he : IsEnum ((s.heap.push o).push { cls := .type "enumerate", data := .fields #[.none, .bool false, .ref s.heap.objs.size, rawInt 0, .none, .none] }) (s.heap.objs.size + 1) s.heap.objs.size 0 .none := by
    have := Heap.get?_push_size (s.heap.push o) (o := { cls := .type "enumerate", data := .fields #[.none, .bool false, .ref s.heap.objs.size, rawInt 0, .none, .none] }) rfl
    rw [hz] at this; exact this
  refine ⟨⟨_, he, rfl⟩, h _ he (Heap.get?_push_of_some _ (Heap.get?_push_size _ B.free)) (by rw [Heap.size_push, hz]) fun b o x => Heap.get?_push_of_some _ (Heap.get?_push_of_some _ x)⟩
end
def IteG (K : PySem.W.Frag) (k : Bool) (a : Addr) : It :=
  ⟨fun i H => ∃ (xs : List V) (x : V), Sq K k H a xs ∧ xs[i]? = some x, fun i H v H' => ∃ T x, v = .ref T ∧ H T = none ∧ H' = upd H T (.tup [.int (i : Nat), x]) ∧ ∀ xs, Sq K k H a xs → xs[i]? = some x, fun i H => ∃ xs : List V, Sq K k H a xs ∧ xs.length = i⟩
theorem turn_enumG {P : Program} {w : World} {K : PySem.W.Frag} {elts : List Expr} {kk : Nat} {tpos : Pos} {k : Bool} {a e it : Addr} (hne : e ≠ it) (hea : a ≠ e) (hia : a ≠ it) :
    Turn P w K (.Tuple elts kk tpos) (IteG K k a) [e, it] e (fun i h => (∃ old, IsEnum h e it ((i : Nat) : Int) old) ∧ itAt k h it a i) where
  mem := by simp
  obj := fun i h st b hb => by
    obtain ⟨⟨old, he⟩, hi⟩ := st
    have e' : b = e ∨ b = it := by simpa using hb
    rcases e' with z | z
    · rw [z]; exact ⟨_, he, fun v q => nomatch q⟩
    · rw [z]; exact hi.there
  keep := fun i h h' st k => let ⟨⟨old, he⟩, hi⟩ := st; ⟨⟨old, k e (by simp) _ he⟩, hi.at fun o q => k it (by simp) o q⟩
  item := by
    intro X hP hw hK hc i pins s σ H E I hf st hg
    subst hP hw hK
    obtain ⟨⟨old, he⟩, hit⟩ := st
    obtain ⟨xs, x, hq, hx⟩ := hg
    obtain ⟨its, rv, p⟩ := inv_seq I hq
    obtain ⟨u, hu, ru⟩ := rv.get hx
    have hel : e < s.heap.objs.size := Heap.lt_size he
    have hil : it < s.heap.objs.size := by obtain ⟨_, q, _⟩ := hit.there; exact Heap.lt_size q
    have hh : X.A.in1.handled = none := I.ok.hd hc
    have l1 : i < its.toArray.size := by
      have := (List.getElem?_eq_some_iff.mp hu).1
      simpa using this
    refine wpAny_pyNext_enum_itemC (draws_k hh k it a hia its.toArray) he ⟨hit, p⟩ l1 hne (by simp [hne, Ne.symm hea]) fun v1 h' tk e1 ho hst' hT hsz hk => ?_
    have e1' : v1 = u := by
      have q : its[i]? = some v1 := by simpa using e1
      rw [hu] at q
      exact (Option.some.inj q).symm
    subst e1'
    refine ⟨_, rfl, wpAny_letOwnedTupleGo_enum (s := { s with heap := h', toks := tk + 1 }) ho fun h'' he' sb => ?_⟩
    have hT2 : h''.get? s.heap.objs.size = some { cls := .type "tuple", data := .seq #[.int i tk, v1] } := (sb.2 _ (Nat.ne_of_gt hel)).trans hT
    have new : ObjOk X.prog X.w (upd H s.heap.objs.size (.tup [.int (i : Nat), x])) h'' s.heap.objs.size (.tup [.int (i : Nat), x]) :=
      ⟨by show 2 ≤ sizeLine; decide, [.int i tk, v1], .cons ⟨_, rfl⟩ (.cons ru .nil), ⟨_, hT2, rfl, _, rfl⟩⟩
    have I1 : Inv X pins σ (upd H s.heap.objs.size (.tup [.int (i : Nat), x])) { s with heap := h'', toks := tk + 1 } :=
      I.turnedNew (ch := [e, it]) (fun b ob hb q => (sb.2 b (fun z => hb (by simp [z]))).trans (hk b ob (fun z => hb (by simp [z])) (fun z => hb (by simp [z])) q)) hf (Nat.le_refl _) new
    refine ⟨.ref s.heap.objs.size, _, I1, rfl, ⟨_, x, rfl, I.hok.fresh (Nat.le_refl _), rfl, fun ys hy => by rw [inv_inj I hy hq]; exact hx⟩, ⟨⟨v1, ?_⟩, hst'.1.at fun o q => (sb.2 it (Ne.symm hne)).trans q⟩, fun b hb => ?_⟩
    · have e1 : ((i + 1 : Nat) : Int) = (i : Int) + 1 := by omega
      rw [e1]; exact he'
    · have hb' : b < s.heap.objs.size := by
        have e' : b = e ∨ b = it := by simpa using hb
        rcases e' with z | z
        · rw [z]; exact hel
        · rw [z]; exact hil
      rw [upd_ne (Nat.ne_of_lt hb')]
      exact (hf b hb).1
  done := by
    intro X hP hw hK hc i pins s σ H E I hf st hg
    subst hP hw hK
    obtain ⟨⟨old, he⟩, hit⟩ := st
    obtain ⟨xs, hq, hx⟩ := hg
    obtain ⟨its, rv, p⟩ := inv_seq I hq
    obtain ⟨f0, f1, f2, f3, f4, f5⟩ := hf it (by simp)
    have hh : X.A.in1.handled = none := I.ok.hd hc
    have hl := rv.length
    have hi : its.toArray.size = i := by simp; omega
    subst hi
    exact wpAny_pyNext_enum_endD (draws_k hh k it a hia its.toArray) he ⟨hit, p⟩ fun h' eb => ⟨rfl, I.turned (t' := s.toks) (fun b o hb q => eb b o hb q) f0 f1 f3 f4 f5⟩
  self := fun A i s Q E st h => let ⟨⟨_, he⟩, _⟩ := st; wpAny_pyIter_enum he h
def iEnumG (K : PySem.W.Frag) (ta : TA) : TI := fun σ H R => ta σ H fun vs H1 => ∃ a k xs, vs = [.ref a] ∧ Sq K k H1 a xs ∧ R (IteG K k a) H1
theorem pi_enumG {X : Cx} {e : Expr} {ta : TA} {p pos tpos : Pos} {elts : List Expr} {kk : Nat} (hg : Gl X "enumerate") (hm : X.mg "enumerate" = none) (ha : PA X [e] ta) (hs : starEach [e] X.env = [(false, eval e X.env)] := by rfl) :
    PI X (.Tuple elts kk tpos) (.Call (.Name "enumerate" p) [e] [] pos) (iEnumG X.K ta) := by
  refine ⟨fun pins s σ H R I h => ?_⟩
  refine Call_ (ld_blt I hg hm boot_enumerate (PyProof.Rows.callWith_type1 (thn (ha.run pos pins s σ H _ I h) fun us s1 ⟨vs, H1, I1, r1, q1⟩ => ?_) hs rfl))
  obtain ⟨a, k, xs, ex, hq, q⟩ := q1
  subst ex
  cases r1 with
  | cons r rr =>
    cases rr
    cases r
    obtain ⟨its, rv, p'⟩ := inv_seq I1 hq
    have hal := p'.lt
    refine enum_begins1 (begins_k k a its.toArray) p' fun h' he hit hsz hk => wpAny_pyIter_enum he ?_
    have I2 : Inv X pins σ H1 { s1 with heap := h' } := I1.kept (t' := s1.toks) hk
    refine ⟨s1.heap.objs.size + 1, [s1.heap.objs.size + 1, s1.heap.objs.size], _, _, H1, rfl, I2, turn_enumG (e := s1.heap.objs.size + 1) (it := s1.heap.objs.size) (Nat.succ_ne_self _) (Nat.ne_of_lt (Nat.lt_succ_of_lt hal)) (Nat.ne_of_lt hal), ⟨⟨.none, he⟩, itAt_new hit⟩, fun b hb => ?_, q⟩
    have e' : b = s1.heap.objs.size + 1 ∨ b = s1.heap.objs.size := by simpa using hb
    have hle : s1.heap.objs.size ≤ b := by
      rcases e' with z | z
      · rw [z]; exact Nat.le_add_right _ _
      · rw [z]; exact Nat.le_refl _
    exact I1.fpOk hle (I1.hok.fresh hle)
end RW

set_option Elab.async false
set_option linter.all false
set_option maxRecDepth 100000
set_option maxHeartbeats 4000000
namespace RW
open PySem PySem.Spec PyProof.Rows L2
open Evl (Ex)

/-! ### data: what a value is, whatever its address -/
inductive Dat where
  | non | bl (b : Bool) | int (i : Int) | str (s : Str) | ty (n : String)
  | tup (xs : List Dat) | lst (xs : List Dat) | scr (ns : List Int)
  | ins (C : Addr) (fs : List (Str × Dat))
  | adr (a : Addr)
  | dic (ks : List (List Int))
  | cel (j : Nat)
  | tab (P : Addr) (q : Str)
  | dd
  | lsa (p : Addr) (ds : List Dat)
  | dkd (kvs : List (L2.Key × Dat))
  | dtd (kvs : List (List Int × Dat))
/-- where it stands, if that is told -/
def adrOf : Dat → Option Addr
  | .tab P _ => some P
  | .lsa p _ => some p
  | _ => none
mutual
inductive Rep (K : PySem.W.Frag) (B : Hp) : V → Dat → Prop
  | non : Rep K B .non .non
  | bl (b : Bool) : Rep K B (.bl b) (.bl b)
  | int (i : Int) : Rep K B (.int i) (.int i)
  | str (s : Str) : Rep K B (.str s) (.str s)
  | ty (n : String) : Rep K B (.ty n) (.ty n)
  | tup {a : Addr} {xs : List V} {ds : List Dat} : SqT K B a xs → Reps K B xs ds → Rep K B (.ref a) (.tup ds)
  | lst {a : Addr} {xs : List V} {ds : List Dat} : B a = some (.lst xs) → Reps K B xs ds → Rep K B (.ref a) (.lst ds)
  | scr {a : Addr} {ns : List Int} : SqL K B a (ns.map V.int) → Rep K B (.ref a) (.scr ns)
  | ins {a C dx : Addr} {vs : List (Str × V)} {fs : List (Str × Dat)} : B a = some (.ins C dx vs) → RepF K B vs fs → Rep K B (.ref a) (.ins C fs)
  | adr (a : Addr) : Rep K B (.ref a) (.adr a)
  | dd {a : Addr} : B a = some (.dT []) → Rep K B (.ref a) .dd
inductive Reps (K : PySem.W.Frag) (B : Hp) : List V → List Dat → Prop
  | nil : Reps K B [] []
  | cons {v : V} {d : Dat} {vs : List V} {ds : List Dat} : Rep K B v d → Reps K B vs ds → Reps K B (v :: vs) (d :: ds)
inductive RepF (K : PySem.W.Frag) (B : Hp) : List (Str × V) → List (Str × Dat) → Prop
  | nil : RepF K B [] []
  | cons {f : Str} {v : V} {d : Dat} {vs : List (Str × V)} {ds : List (Str × Dat)} : Rep K B v d → RepF K B vs ds → RepF K B ((f, v) :: vs) ((f, d) :: ds)
  | cel {f : Str} {v : V} {j : Nat} {vs : List (Str × V)} {ds : List (Str × Dat)} : RepF K B vs ds → RepF K B ((f, v) :: vs) ((f, .cel j) :: ds)
end
section
variable {K : PySem.W.Frag} {B B' : Hp}
mutual
theorem Rep.mono (e : Ex B B') : ∀ {v : V} {d : Dat}, Rep K B v d → Rep K B' v d
  | _, _, .non => .non
  | _, _, .bl b => .bl b
  | _, _, .int i => .int i
  | _, _, .str s => .str s
  | _, _, .ty n => .ty n
  | _, _, .tup h r => .tup (Evl.ex_t e h) (Reps.mono e r)
  | _, _, .lst h r => .lst (e _ _ h) (Reps.mono e r)
  | _, _, .scr h => .scr (Evl.ex_l e h)
  | _, _, .ins h r => .ins (e _ _ h) (RepF.mono e r)
  | _, _, .adr a => .adr a
  | _, _, .dd h => .dd (e _ _ h)
theorem Reps.mono (e : Ex B B') : ∀ {v : List V} {d : List Dat}, Reps K B v d → Reps K B' v d
  | _, _, .nil => .nil
  | _, _, .cons h r => .cons (Rep.mono e h) (Reps.mono e r)
theorem RepF.mono (e : Ex B B') : ∀ {v : List (Str × V)} {d : List (Str × Dat)}, RepF K B v d → RepF K B' v d
  | _, _, .nil => .nil
  | _, _, .cons h r => .cons (Rep.mono e h) (RepF.mono e r)
  | _, _, .cel r => .cel (RepF.mono e r)
end
theorem Reps.length : ∀ {vs : List V} {ds : List Dat}, Reps K B vs ds → vs.length = ds.length
  | _, _, .nil => rfl
  | _, _, .cons _ r => by rw [List.length_cons, List.length_cons, Reps.length r]
theorem Reps.get : ∀ {vs : List V} {ds : List Dat} {i : Nat} {d : Dat}, Reps K B vs ds → ds[i]? = some d → ∃ v, vs[i]? = some v ∧ Rep K B v d
  | _, _, _, _, .nil, e => by simp at e
  | _, _, 0, _, .cons h _, e => by simp at e; subst e; exact ⟨_, rfl, h⟩
  | _, _, i + 1, d, .cons _ r, e => by
    obtain ⟨v, h1, h2⟩ := Reps.get (i := i) (d := d) r (by simpa using e)
    exact ⟨v, by simpa using h1, h2⟩
theorem Reps.get' : ∀ {vs : List V} {ds : List Dat} {i : Nat} {v : V}, Reps K B vs ds → vs[i]? = some v → ∃ d, ds[i]? = some d ∧ Rep K B v d
  | _, _, _, _, .nil, e => by simp at e
  | _, _, 0, _, .cons h _, e => by simp at e; subst e; exact ⟨_, rfl, h⟩
  | _, _, i + 1, v, .cons _ r, e => by
    obtain ⟨d, h1, h2⟩ := Reps.get' (i := i) (v := v) r (by simpa using e)
    exact ⟨d, by simpa using h1, h2⟩
theorem Reps.append : ∀ {vs ws : List V} {ds es : List Dat}, Reps K B vs ds → Reps K B ws es → Reps K B (vs ++ ws) (ds ++ es)
  | _, _, _, _, .nil, h => h
  | _, _, _, _, .cons h r, q => .cons h (Reps.append r q)
theorem Reps.take : ∀ {vs : List V} {ds : List Dat} (n : Nat), Reps K B vs ds → Reps K B (vs.take n) (ds.take n)
  | _, _, 0, _ => .nil
  | _, _, _ + 1, .nil => .nil
  | _, _, n + 1, .cons h r => .cons h (Reps.take n r)
theorem Reps.drop : ∀ {vs : List V} {ds : List Dat} (n : Nat), Reps K B vs ds → Reps K B (vs.drop n) (ds.drop n)
  | _, _, 0, r => r
  | _, _, _ + 1, .nil => .nil
  | _, _, n + 1, .cons _ r => Reps.drop n r
theorem Reps.set : ∀ {vs : List V} {ds : List Dat} {v : V} {d : Dat} (n : Nat), Rep K B v d → Reps K B vs ds → Reps K B (vs.set n v) (ds.set n d)
  | _, _, _, _, _, _, .nil => .nil
  | _, _, _, _, 0, h, .cons _ r => .cons h r
  | _, _, _, _, n + 1, h, .cons q r => .cons q (Reps.set n h r)
theorem Reps.ints : ∀ {vs : List V} {ns : List Int}, Reps K B vs (ns.map Dat.int) → vs = ns.map V.int
  | _, [], .nil => rfl
  | _, n :: ns, .cons h r => by
    cases h
    rw [List.map_cons, Reps.ints r]
theorem Reps.bls : ∀ {vs : List V} {ns : List Bool}, Reps K B vs (ns.map Dat.bl) → vs = ns.map V.bl
  | _, [], .nil => rfl
  | _, n :: ns, .cons h r => by
    cases h
    rw [List.map_cons, Reps.bls r]
theorem RepF.get : ∀ {vs : List (Str × V)} {fs : List (Str × Dat)} {f : Str} {d : Dat}, RepF K B vs fs → fs.lookup f = some d → (∀ j, d ≠ .cel j) → ∃ v, vs.lookup f = some v ∧ Rep K B v d
  | _, _, _, _, .nil, e, _ => by cases e
  | _, _, f, d, .cons (f := g) (vs := vs) (ds := ds) h r, e, hd => by
    by_cases q : (f == g) = true
    · simp only [List.lookup, q] at e ⊢
      cases e
      exact ⟨_, rfl, h⟩
    · have q' : (f == g) = false := by simpa using q
      simp only [List.lookup, q'] at e ⊢
      exact RepF.get r e hd
  | _, _, f, d, .cel (f := g) (j := j) r, e, hd => by
    by_cases q : (f == g) = true
    · simp only [List.lookup, q] at e
      cases e
      exact absurd rfl (hd j)
    · have q' : (f == g) = false := by simpa using q
      simp only [List.lookup, q'] at e ⊢
      exact RepF.get r e hd
end

/-! ### what a slot or an argument is: data, or a list that is changed (by its number) -/
inductive Sl where
  | d (x : Dat)
  | c (k : Nat)
def RepS (K : PySem.W.Frag) (B : Hp) (as : List Addr) (v : V) : Sl → Prop
  | .d x => Rep K B v x
  | .c k => ∃ a, as[k]? = some a ∧ v = .ref a
inductive RepSs (K : PySem.W.Frag) (B : Hp) (as : List Addr) : List V → List Sl → Prop
  | nil : RepSs K B as [] []
  | cons {v : V} {s : Sl} {vs : List V} {ss : List Sl} : RepS K B as v s → RepSs K B as vs ss → RepSs K B as (v :: vs) (s :: ss)
abbrev Env1 := List (Option Sl)
def EnvR (K : PySem.W.Frag) (B : Hp) (as : List Addr) (σ : L2.St) (env : Env1) : Prop :=
  σ.length = env.length ∧ ∀ (i : Nat) (s : Sl), env[i]? = some (some s) → ∃ v, σ[i]? = some (some v) ∧ RepS K B as v s
/-- what stands at a changed thing -/
def CellO (K : PySem.W.Frag) (B : Hp) : HO → Dat → Prop
  | .lst vs, .lst ds => Reps K B vs ds
  | .lst vs, .lsa _ ds => Reps K B vs ds
  | .ins C _ vs, .ins C' fs => C = C' ∧ RepF K B vs fs
  | .dT kvs, .dic ks => kvs.map (·.1) = ks.map fun k => k.map Sum.inl
  | .dK kvs, .dkd ks => kvs.map (·.1) = ks.map (·.1) ∧ Reps K B (kvs.map (·.2)) (ks.map (·.2))
  | .dT kvs, .dtd ks => kvs.map (·.1) = (ks.map fun k => k.1.map Sum.inl) ∧ Reps K B (kvs.map (·.2)) (ks.map (·.2))
  | .tbl ps, .tab _ q => TriplesOk ps.toList ∧ ∀ (pos : Pos) (cv : Value), codeAmong pos ps.toList = some cv → ∃ c, cv = .ref c ∧ B c = some (LamX.CodeO c q)
  | _, _ => False
def CellAt (K : PySem.W.Frag) (B H : Hp) (a : Addr) (s : Dat) : Prop := ∃ o, H a = some o ∧ CellO K B o s
theorem CellO.mono {K : PySem.W.Frag} {B B' : Hp} {o : HO} {s : Dat} (e : Ex B B') (h : CellO K B o s) : CellO K B' o s := by
  unfold CellO at h ⊢
  split at h <;> first
    | exact h.elim
    | exact Reps.mono e h
    | exact ⟨h.1, RepF.mono e h.2⟩
    | exact ⟨h.1, Reps.mono e h.2⟩
    | exact ⟨h.1, fun pos cv hc => let ⟨c, h1, h2⟩ := h.2 pos cv hc; ⟨c, h1, e _ _ h2⟩⟩
    | exact h
theorem CellAt.lst {K : PySem.W.Frag} {B H : Hp} {a : Addr} {ds : List Dat} (h : CellAt K B H a (.lst ds)) : ∃ vs, H a = some (.lst vs) ∧ Reps K B vs ds := by
  obtain ⟨o, h1, h2⟩ := h
  cases o <;> first
    | exact h2.elim
    | exact ⟨_, h1, h2⟩
theorem CellAt.ins {K : PySem.W.Frag} {B H : Hp} {a C : Addr} {fs : List (Str × Dat)} (h : CellAt K B H a (.ins C fs)) : ∃ dx vs, H a = some (.ins C dx vs) ∧ RepF K B vs fs := by
  obtain ⟨o, h1, h2⟩ := h
  cases o <;> first
    | exact h2.elim
    | (obtain ⟨rfl, h2⟩ := h2; exact ⟨_, _, h1, h2⟩)
theorem CellAt.dic {K : PySem.W.Frag} {B H : Hp} {a : Addr} {ks : List (List Int)} (h : CellAt K B H a (.dic ks)) : ∃ kvs, H a = some (.dT kvs) ∧ kvs.map (·.1) = ks.map fun k => k.map Sum.inl := by
  obtain ⟨o, h1, h2⟩ := h
  cases o <;> first
    | exact h2.elim
    | exact ⟨_, h1, h2⟩
theorem CellAt.lsa {K : PySem.W.Frag} {B H : Hp} {a p : Addr} {ds : List Dat} (h : CellAt K B H a (.lsa p ds)) : ∃ vs, H a = some (.lst vs) ∧ Reps K B vs ds := by
  obtain ⟨o, h1, h2⟩ := h
  cases o <;> first
    | exact h2.elim
    | exact ⟨_, h1, h2⟩
theorem CellAt.ofL {K : PySem.W.Frag} {B H : Hp} {a : Addr} {vs : List V} {ds : List Dat} (h : H a = some (.lst vs)) (r : Reps K B vs ds) : CellAt K B H a (.lst ds) := ⟨_, h, r⟩
theorem CellAt.ofI {K : PySem.W.Frag} {B H : Hp} {a C dx : Addr} {vs : List (Str × V)} {fs : List (Str × Dat)} (h : H a = some (.ins C dx vs)) (r : RepF K B vs fs) : CellAt K B H a (.ins C fs) := ⟨_, h, rfl, r⟩
/-- fields that tell of changed things ahead of this one -/
def LkO (as : List Addr) (k : Nat) (o : HO) (s : Dat) : Prop := ∀ C fs f j, s = .ins C fs → fs.lookup f = some (.cel j) → j < k → ∃ b dx vs, as[j]? = some b ∧ o = .ins C dx vs ∧ vs.lookup f = some (.ref b)
structure Ok (K : PySem.W.Frag) (B H : Hp) (as : List Addr) (S : List Dat) : Prop where
  ex : Ex B H
  len : as.length = S.length
  cells : ∀ (k : Nat) (a : Addr) (s : Dat), as[k]? = some a → S[k]? = some s → B a = none ∧ CellAt K B H a s
  nd : as.Nodup
  lk : ∀ (k : Nat) (a : Addr) (s : Dat) (o : HO), as[k]? = some a → S[k]? = some s → H a = some o → LkO as k o s
  ntb : ∀ (a : Addr) (ps : Array Value), B a ≠ some (.tbl ps)
  tb : ∀ (k : Nat) (d : Dat) (P : Addr), S[k]? = some d → adrOf d = some P → as[k]? = some P
/-- what never changes: tuples, codes of lambdas -/
def Fixd (o : HO) : Prop := (∃ xs, o = .tup xs) ∨ ∃ a q, o = LamX.CodeO a q
theorem Fixd.lst {xs : List V} (h : Fixd (.lst xs)) : False := by
  rcases h with ⟨_, h⟩ | ⟨_, _, h⟩
  · cases h
  · unfold LamX.CodeO at h; cases h
theorem Fixd.ins {C dx : Addr} {xs : List (Str × V)} (h : Fixd (.ins C dx xs)) : False := by
  rcases h with ⟨_, h⟩ | ⟨_, _, h⟩
  · cases h
  · unfold LamX.CodeO at h; cases h
theorem Fixd.dT {xs : List (List L2.Key × V)} (h : Fixd (.dT xs)) : False := by
  rcases h with ⟨_, h⟩ | ⟨_, _, h⟩
  · cases h
  · unfold LamX.CodeO at h; cases h
theorem Fixd.tbl {xs : Array Value} (h : Fixd (.tbl xs)) : False := by
  rcases h with ⟨_, h⟩ | ⟨_, _, h⟩
  · cases h
  · unfold LamX.CodeO at h; cases h
def Nn (H : Hp) (a : Addr) : Prop := ∀ o, H a = some o → ∃ ps, o = .tbl ps
theorem Nn.of {H : Hp} {a : Addr} (h : H a = none) : Nn H a := fun o q => by rw [h] at q; cases q
theorem Nn.no {H : Hp} {a : Addr} {o : HO} (h : Nn H a) (q : H a = some o) (nt : ∀ ps, o ≠ .tbl ps) : False := by
  obtain ⟨ps, e⟩ := h o q
  exact nt ps e
/-- p is new: nothing of what was known or changed -/
def Fresh (H : Hp) (as : List Addr) (p : Addr) : Prop := p ∉ as ∧ Nn H p
structure Evo (B H : Hp) (as : List Addr) (B' H' : Hp) : Prop where
  ex : Ex B B'
  fr : ∀ a o, a ∉ as → H a = some o → (∀ ps, o ≠ .tbl ps) → H' a = some o
  gr : ∀ a o, H a = some o → (∀ ps, o ≠ .tbl ps) → B' a = B a ∨ ∃ o', Fixd o' ∧ H' a = some o'
  tp : ∀ a o, Fixd o → H a = some o → H' a = some o
  pr : ∀ a o, H a = some o → (∀ ps, o ≠ .tbl ps) → ∃ o', H' a = some o' ∧ ∀ ps, o' ≠ .tbl ps
section
variable {K : PySem.W.Frag} {B B' B1 B2 H H' H1 H2 : Hp} {as as' : List Addr} {S S' : List Dat} {σ : L2.St} {env : Env1} {v : V} {s : Sl}
theorem RepS.mono (e : Ex B B') (h : RepS K B as v s) : RepS K B' as v s := by
  cases s with
  | d x => exact Rep.mono e h
  | c k => exact h
theorem RepS.grow {as1 : List Addr} (h : RepS K B as v s) : RepS K B (as ++ as1) v s := by
  cases s with
  | d x => exact h
  | c k =>
    obtain ⟨a, q, e⟩ := h
    exact ⟨a, by rw [List.getElem?_append_left (List.getElem?_eq_some_iff.mp q).1]; exact q, e⟩
theorem RepSs.mono (e : Ex B B') : ∀ {vs : List V} {ss : List Sl}, RepSs K B as vs ss → RepSs K B' as vs ss
  | _, _, .nil => .nil
  | _, _, .cons h r => .cons (h.mono e) (RepSs.mono e r)
theorem RepSs.append : ∀ {vs ws : List V} {ss ts : List Sl}, RepSs K B as vs ss → RepSs K B as ws ts → RepSs K B as (vs ++ ws) (ss ++ ts)
  | _, _, _, _, .nil, h => h
  | _, _, _, _, .cons h r, q => .cons h (RepSs.append r q)
theorem RepSs.length : ∀ {vs : List V} {ss : List Sl}, RepSs K B as vs ss → vs.length = ss.length
  | _, _, .nil => rfl
  | _, _, .cons _ r => by rw [List.length_cons, List.length_cons, RepSs.length r]
theorem RepSs.get : ∀ {vs : List V} {ss : List Sl} {i : Nat} {s : Sl}, RepSs K B as vs ss → ss[i]? = some s → ∃ v, vs[i]? = some v ∧ RepS K B as v s
  | _, _, _, _, .nil, e => by simp at e
  | _, _, 0, _, .cons h _, e => by simp at e; subst e; exact ⟨_, rfl, h⟩
  | _, _, i + 1, s, .cons _ r, e => by
    obtain ⟨v, h1, h2⟩ := RepSs.get (i := i) (s := s) r (by simpa using e)
    exact ⟨v, by simpa using h1, h2⟩
theorem RepSs.ds : ∀ {vs : List V} {ds : List Dat}, RepSs K B as vs (ds.map Sl.d) → Reps K B vs ds
  | _, [], .nil => .nil
  | _, d :: ds, .cons h r => .cons h (RepSs.ds r)
theorem EnvR.mono (e : Ex B B') (h : EnvR K B as σ env) : EnvR K B' as σ env :=
  ⟨h.1, fun i s q => by obtain ⟨v, q1, q2⟩ := h.2 i s q; exact ⟨v, q1, q2.mono e⟩⟩
theorem EnvR.grow {as1 : List Addr} (h : EnvR K B as σ env) : EnvR K B (as ++ as1) σ env :=
  ⟨h.1, fun i s q => by obtain ⟨v, q1, q2⟩ := h.2 i s q; exact ⟨v, q1, q2.grow⟩⟩
theorem EnvR.set (i : Nat) (h : EnvR K B as σ env) (hv : RepS K B as v s) : EnvR K B as (σ.set i (some v)) (env.set i (some s)) := by
  refine ⟨by rw [List.length_set, List.length_set, h.1], fun j t q => ?_⟩
  by_cases e : i = j
  · subst e
    have hi : i < env.length := by
      have := (List.getElem?_eq_some_iff.mp q).1
      rw [List.length_set] at this
      exact this
    rw [List.getElem?_set_self hi] at q
    cases q
    exact ⟨v, by rw [List.getElem?_set_self (by rw [h.1]; exact hi)], hv⟩
  · rw [List.getElem?_set_ne e] at q
    obtain ⟨w, q1, q2⟩ := h.2 j t q
    exact ⟨w, by rw [List.getElem?_set_ne e]; exact q1, q2⟩
theorem EnvR.unset (i : Nat) (h : EnvR K B as σ env) : EnvR K B as (σ.set i none) (env.set i none) := by
  refine ⟨by rw [List.length_set, List.length_set, h.1], fun j t q => ?_⟩
  by_cases e : i = j
  · subst e
    have hi : i < env.length := by
      have := (List.getElem?_eq_some_iff.mp q).1
      rw [List.length_set] at this
      exact this
    rw [List.getElem?_set_self hi] at q
    cases q
  · rw [List.getElem?_set_ne e] at q
    obtain ⟨w, q1, q2⟩ := h.2 j t q
    exact ⟨w, by rw [List.getElem?_set_ne e]; exact q1, q2⟩
theorem EnvR.forget (i : Nat) (x : Option V) (h : EnvR K B as σ env) : EnvR K B as (σ.set i x) (env.set i none) := by
  refine ⟨by rw [List.length_set, List.length_set, h.1], fun j t q => ?_⟩
  by_cases e : i = j
  · subst e
    have hi : i < env.length := by
      have := (List.getElem?_eq_some_iff.mp q).1
      rw [List.length_set] at this
      exact this
    rw [List.getElem?_set_self hi] at q
    cases q
  · rw [List.getElem?_set_ne e] at q
    obtain ⟨w, q1, q2⟩ := h.2 j t q
    exact ⟨w, by rw [List.getElem?_set_ne e]; exact q1, q2⟩
theorem EnvR.start {N : List Str} {vs : List V} {ss : List Sl} (h : RepSs K B as vs ss) : EnvR K B as (start N vs) (ss.map some ++ List.replicate (N.length - ss.length) none) := by
  unfold L2.start
  refine ⟨by rw [List.length_append, List.length_append, List.length_map, List.length_map, List.length_replicate, List.length_replicate, h.length], fun i s q => ?_⟩
  by_cases hi : i < ss.length
  · rw [List.getElem?_append_left (by simpa using hi), List.getElem?_map] at q
    cases e : ss[i]? with
    | none => rw [e] at q; cases q
    | some t =>
      rw [e] at q
      cases q
      obtain ⟨v, q1, q2⟩ := h.get e
      refine ⟨v, ?_, q2⟩
      rw [List.getElem?_append_left (by rw [List.length_map, h.length]; exact hi), List.getElem?_map, q1]
      rfl
  · rw [List.getElem?_append_right (by simpa using hi), List.getElem?_replicate] at q
    split at q <;> cases q
def wipeE (env : Env1) : List Nat → Env1
  | [] => env
  | v :: vs => (wipeE env vs).set v none
theorem EnvR.wipe (h : EnvR K B as σ env) : ∀ vs : List Nat, EnvR K B as (L2.wipe σ vs) (wipeE env vs)
  | [] => h
  | v :: vs => (EnvR.wipe h vs).unset v
theorem Evo.refl : Evo B H as B H := ⟨Evl.Ex.refl B, fun _ _ _ h _ => h, fun _ _ _ _ => .inl rfl, fun _ _ _ h => h, fun _ o h nt => ⟨o, h, nt⟩⟩
theorem Evo.trans (a : Evo B H as B1 H1) (b : Evo B1 H1 as B2 H2) : Evo B H as B2 H2 :=
  ⟨a.ex.trans b.ex, fun x o n h nt => b.fr x o n (a.fr x o n h nt) nt, fun x o h nt => let ⟨o1, h1, n1⟩ := a.pr x o h nt; (b.gr x o1 h1 n1).elim (fun e => (a.gr x o h nt).elim (fun e2 => .inl (e.trans e2)) fun ⟨o, fo, h⟩ => .inr ⟨o, fo, b.tp x o fo h⟩) .inr, fun x o fo h => b.tp x o fo (a.tp x o fo h), fun x o h nt => let ⟨o1, h1, n1⟩ := a.pr x o h nt; b.pr x o1 h1 n1⟩
/-- a new object, known from then on -/
theorem Ok.new {p : Addr} {o : HO} (c : Ok K B H as S) (hp : H p = none) (ho : ∀ ps, o ≠ .tbl ps := by exact fun _ z => nomatch z) : Ok K (upd B p o) (upd H p o) as S where
  ex := fun a u e => by
    by_cases q : a = p
    · subst q; rw [upd_same] at e ⊢; exact e
    · rw [upd_ne q] at e ⊢; exact c.ex a u e
  len := c.len
  cells := fun k a s h1 h2 => by
    obtain ⟨q1, q2⟩ := c.cells k a s h1 h2
    have hB : Ex B (upd B p o) := Evl.Ex.new (by
      cases e : B p with
      | none => rfl
      | some u => rw [c.ex p u e] at hp; cases hp)
    have ne : a ≠ p := by
      intro z
      subst z
      obtain ⟨o, q3, _⟩ := q2; rw [hp] at q3; cases q3
    rw [upd_ne ne]
    refine ⟨q1, ?_⟩
    obtain ⟨o, q3, q4⟩ := q2
    exact ⟨o, by rw [upd_ne ne]; exact q3, q4.mono hB⟩
  nd := c.nd
  lk := fun k a s o h1 h2 h3 => by
    have ne : a ≠ p := by
      rintro rfl
      obtain ⟨_, _, q3, _⟩ := c.cells k a s h1 h2
      rw [hp] at q3; cases q3
    rw [upd_ne ne] at h3
    exact c.lk k a s o h1 h2 h3
  tb := c.tb
  ntb := fun a ps e => by
    by_cases q : a = p
    · subst q; rw [upd_same] at e; exact ho ps (Option.some.inj e)
    · rw [upd_ne q] at e; exact c.ntb a ps e
theorem Ok.Bnone {p : Addr} (c : Ok K B H as S) (hp : H p = none) : B p = none := by
  cases e : B p with
  | none => rfl
  | some u => rw [c.ex p u e] at hp; cases hp
theorem Evo.new {p : Addr} {o : HO} (c : Ok K B H as S) (hp : H p = none) : Evo B H as (upd B p o) (upd H p o) :=
  ⟨Evl.Ex.new (c.Bnone hp), fun a u _ h _ => by rw [upd_ne (ne_of_none h hp)]; exact h, fun a o h _ => .inl (upd_ne (ne_of_none h hp)), fun a xs _ h => by rw [upd_ne (ne_of_none h hp)]; exact h, fun a o h nt => ⟨o, by rw [upd_ne (ne_of_none h hp)]; exact h, nt⟩⟩
end
end RW

set_option Elab.async false
set_option linter.all false
set_option maxRecDepth 100000
set_option maxHeartbeats 4000000
namespace RW
open PySem PySem.Spec PyProof.Rows L2
open Evl (Ex)

/-! ### what an expression gives -/
def Ev (K : PySem.W.Frag) (te : TE) (env : Env1) (S : List Dat) (r : Sl) (S' : List Dat) : Prop :=
  ∀ B H as σ, Ok K B H as S → EnvR K B as σ env → ∀ Q : VK, (∀ v B' H', Ok K B' H' as S' → Evo B H as B' H' → RepS K B' as v r → Q v H') → te σ H Q
/-- a new list that nothing else knows -/
def EvN (K : PySem.W.Frag) (te : TE) (env : Env1) (S : List Dat) (ds : List Dat) (S' : List Dat) : Prop :=
  ∀ B H as σ, Ok K B H as S → EnvR K B as σ env → ∀ Q : VK, (∀ p B' H' vs, Ok K B' H' as S' → Evo B H as B' H' → Fresh H as p → B' p = none → H' p = some (.lst vs) → Reps K B' vs ds → Q (.ref p) H') → te σ H Q
def EvT (K : PySem.W.Frag) (tt : TT) (env : Env1) (S : List Dat) (b : Bool) (S' : List Dat) : Prop :=
  ∀ B H as σ, Ok K B H as S → EnvR K B as σ env → ∀ Q : Bool → Hp → Prop, (∀ B' H', Ok K B' H' as S' → Evo B H as B' H' → Q b H') → tt σ H Q
def EvA (K : PySem.W.Frag) (ta : TA) (env : Env1) (S : List Dat) (rs : List Sl) (S' : List Dat) : Prop :=
  ∀ B H as σ, Ok K B H as S → EnvR K B as σ env → ∀ Q : List V → Hp → Prop, (∀ vs B' H', Ok K B' H' as S' → Evo B H as B' H' → RepSs K B' as vs rs → Q vs H') → ta σ H Q
/-- a two-place operation by values -/
def Op2 (K : PySem.W.Frag) (r : R2) (x y : Sl) (S : List Dat) (z : Dat) : Prop :=
  ∀ B H as v w, Ok K B H as S → RepS K B as v x → RepS K B as w y → ∀ Q : VK, (∀ u B' H', Ok K B' H' as S → Evo B H as B' H' → Rep K B' u z → Q u H') → r v w H Q
def Op1 (K : PySem.W.Frag) (r : V → Hp → VK → Prop) (x : Sl) (S : List Dat) (z : Dat) : Prop :=
  ∀ B H as v, Ok K B H as S → RepS K B as v x → ∀ Q : VK, (∀ u B' H', Ok K B' H' as S → Evo B H as B' H' → Rep K B' u z → Q u H') → r v H Q
/-- a call by values; it may change what is changed -/
def CallD (K : PySem.W.Frag) (r : List V → Hp → VK → Prop) (xs : List Sl) (S : List Dat) (z : Dat) (S' : List Dat) : Prop :=
  ∀ B H as vs, Ok K B H as S → RepSs K B as vs xs → ∀ Q : VK, (∀ u B' H', Ok K B' H' as S' → Evo B H as B' H' → Rep K B' u z → Q u H') → r vs H Q
section
variable {K : PySem.W.Frag} {te ta tb tc : TE} {tt tu : TT} {tA tR : TA} {env : Env1} {S S1 S2 S3 : List Dat} {x y z : Sl} {d e : Dat} {r : R2}
theorem ev_var {i : Nat} (h : env[i]? = some (some x)) : Ev K (tVar i) env S x S := fun B H as σ c g Q q => by
  obtain ⟨v, h1, h2⟩ := g.2 i x h
  exact ⟨v, h1, q v B H c Evo.refl h2⟩
theorem ev_int {i : Int} : Ev K (tC (.int i)) env S (.d (.int i)) S := fun B H as σ c g Q q => q _ B H c Evo.refl (.int i)
theorem ev_bl {b : Bool} : Ev K (tC (.bl b)) env S (.d (.bl b)) S := fun B H as σ c g Q q => q _ B H c Evo.refl (.bl b)
theorem ev_str {b : Str} : Ev K (tC (.str b)) env S (.d (.str b)) S := fun B H as σ c g Q q => q _ B H c Evo.refl (.str b)
theorem ev_non : Ev K (tC .non) env S (.d .non) S := fun B H as σ c g Q q => q _ B H c Evo.refl .non
theorem ev_ty {n : String} : Ev K (tC (.ty n)) env S (.d (.ty n)) S := fun B H as σ c g Q q => q _ B H c Evo.refl (.ty n)
theorem ev_adr {a : Addr} : Ev K (tC (.ref a)) env S (.d (.adr a)) S := fun B H as σ c g Q q => q _ B H c Evo.refl (.adr a)
theorem Ev.to {r r' : Sl} (h : Ev K te env S r S1) (e : r = r') : Ev K te env S r' S1 := e ▸ h
theorem EvT.to {b b' : Bool} (h : EvT K tt env S b S1) (e : b = b') : EvT K tt env S b' S1 := e ▸ h
theorem ev_op (ha : Ev K ta env S x S1) (hb : Ev K tb env S1 y S2) (hr : Op2 K r x y S2 d) : Ev K (tOp r ta tb) env S (.d d) S2 := fun B H as σ c g Q q =>
  ha B H as σ c g _ fun v B1 H1 c1 e1 r1 => hb B1 H1 as σ c1 (g.mono e1.ex) _ fun w B2 H2 c2 e2 r2 =>
    hr B2 H2 as v w c2 (r1.mono e2.ex) r2 _ fun u B3 H3 c3 e3 r3 => q u B3 H3 c3 ((e1.trans e2).trans e3) r3
theorem ev_un {r : V → Hp → VK → Prop} (ha : Ev K ta env S x S1) (hr : Op1 K r x S1 d) : Ev K (tUn r ta) env S (.d d) S1 := fun B H as σ c g Q q =>
  ha B H as σ c g _ fun v B1 H1 c1 e1 r1 => hr B1 H1 as v c1 r1 _ fun u B3 H3 c3 e3 r3 => q u B3 H3 c3 (e1.trans e3) r3
theorem op2_int0 {g : Int → Int → V} {i j : Int} (h : ∀ B : Hp, Rep K B (g i j) d) : Op2 K (rI0 g) (.d (.int i)) (.d (.int j)) S d := fun B H as v w c h1 h2 Q q => by
  cases h1; cases h2
  exact ⟨i, j, rfl, rfl, q _ B H c Evo.refl (h B)⟩
theorem op2_int {C : Int → Int → Prop} {g : Int → Int → V} {i j : Int} (hc : C i j) (h : ∀ B : Hp, Rep K B (g i j) d) : Op2 K (rI C g) (.d (.int i)) (.d (.int j)) S d := fun B H as v w c h1 h2 Q q => by
  cases h1; cases h2
  exact ⟨i, j, rfl, rfl, hc, q _ B H c Evo.refl (h B)⟩
theorem op1_int {g : Int → V} {i : Int} (h : ∀ B : Hp, Rep K B (g i) d) : Op1 K (rU g) (.d (.int i)) S d := fun B H as v c h1 Q q => by
  cases h1
  exact ⟨i, rfl, q _ B H c Evo.refl (h B)⟩
theorem ea_nil : EvA K tNil env S [] S := fun B H as σ c g Q q => q [] B H c Evo.refl .nil
theorem ea_cons {xs : List Sl} (h : Ev K ta env S x S1) (hr : EvA K tA env S1 xs S2) : EvA K (tCons ta tA) env S (x :: xs) S2 := fun B H as σ c g Q q =>
  h B H as σ c g _ fun v B1 H1 c1 e1 r1 => hr B1 H1 as σ c1 (g.mono e1.ex) _ fun vs B2 H2 c2 e2 r2 => q _ B2 H2 c2 (e1.trans e2) (.cons (r1.mono e2.ex) r2)
theorem ev_tup {ds : List Dat} (h : EvA K tA env S (ds.map Sl.d) S1) (hl : ds.length ≤ sizeLine) : Ev K (tTup tA) env S (.d (.tup ds)) S1 := fun B H as σ c g Q q =>
  h B H as σ c g _ fun vs B1 H1 c1 e1 r1 => ⟨by rw [r1.ds.length]; exact hl, fun p hp =>
    q _ (upd B1 p (.tup vs)) _ (c1.new hp) (e1.trans (Evo.new c1 hp)) (.tup (.inl (.inl upd_same)) (r1.ds.mono (Evl.Ex.new (c1.Bnone hp))))⟩
/-- a list that nothing knows becomes known -/
theorem Ok.know {B H : Hp} {as : List Addr} {p : Addr} {ob : HO} (c : Ok K B H as S) (hp : H p = some ob) (hb : B p = none) (ha : p ∉ as) (ho : ∀ ps, ob ≠ .tbl ps := by exact fun _ z => nomatch z) : Ok K (upd B p ob) H as S where
  ex := fun a u e => by
    by_cases q : a = p
    · subst q; rw [upd_same] at e; cases e; exact hp
    · rw [upd_ne q] at e; exact c.ex a u e
  len := c.len
  cells := fun k a s h1 h2 => by
    obtain ⟨q1, q2⟩ := c.cells k a s h1 h2
    have ne : a ≠ p := by
      intro z
      subst z
      exact ha (List.mem_of_getElem? h1)
    rw [upd_ne ne]
    refine ⟨q1, ?_⟩
    obtain ⟨o, q3, q4⟩ := q2
    exact ⟨o, q3, q4.mono (Evl.Ex.new hb)⟩
  nd := c.nd
  lk := c.lk
  tb := c.tb
  ntb := fun a ps e => by
    by_cases q : a = p
    · subst q; rw [upd_same] at e; exact ho ps (Option.some.inj e)
    · rw [upd_ne q] at e; exact c.ntb a ps e
theorem Ok.there {B H : Hp} {as : List Addr} {p : Addr} (c : Ok K B H as S) (hp : p ∈ as) : ∃ o, H p = some o := by
  obtain ⟨k, hk⟩ := List.mem_iff_getElem?.mp hp
  have hl : k < S.length := by rw [← c.len]; exact (List.getElem?_eq_some_iff.mp hk).1
  obtain ⟨_, o, q3, _⟩ := c.cells k p S[k] hk (List.getElem?_eq_getElem hl)
  exact ⟨o, q3⟩
theorem Ok.fresh {B H : Hp} {as : List Addr} {p : Addr} (c : Ok K B H as S) (hp : H p = none) : p ∉ as := fun h => by
  obtain ⟨o, q⟩ := c.there h
  rw [hp] at q; cases q
theorem EvN.ev {ds : List Dat} (h : EvN K te env S ds S1) : Ev K te env S (.d (.lst ds)) S1 := fun B H as σ c g Q q =>
  h B H as σ c g _ fun p B1 H1 vs c1 e1 hp hb hl r1 =>
    q _ (upd B1 p (.lst vs)) H1 (c1.know hl hb hp.1) ⟨e1.ex.trans (Evl.Ex.new hb), e1.fr, fun a o h nt => by rw [upd_ne (by rintro rfl; exact hp.2.no h nt)]; exact e1.gr a o h nt, e1.tp, e1.pr⟩ (.lst upd_same (r1.mono (Evl.Ex.new hb)))
/-- made at p just now -/
theorem evn_new {B H B1 H1 : Hp} {as : List Addr} {p : Addr} {vs : List V} {ds : List Dat} {Q : VK} (c : Ok K B H as S) (c1 : Ok K B1 H1 as S1) (e1 : Evo B H as B1 H1) (hp : H1 p = none) (r1 : Reps K B1 vs ds)
    (q : ∀ p B' H' vs, Ok K B' H' as S1 → Evo B H as B' H' → Fresh H as p → B' p = none → H' p = some (.lst vs) → Reps K B' vs ds → Q (.ref p) H') : Q (.ref p) (upd H1 p (.lst vs)) := by
  have hp0 : Nn H p := fun o h => by
    by_cases nt : ∀ ps, o ≠ .tbl ps
    · obtain ⟨o', h', _⟩ := e1.pr p o h nt
      rw [hp] at h'; cases h'
    · exact Classical.byContradiction fun z => nt fun ps e => z ⟨ps, e⟩
  have hpa : p ∉ as := c1.fresh hp
  refine q p B1 _ vs ⟨fun a u e => ?_, c1.len, fun k a s h1 h2 => ?_, c1.nd, fun k a s o h1 h2 h3 => c1.lk k a s o h1 h2 (by rw [upd_ne (by rintro rfl; exact hpa (List.mem_of_getElem? h1))] at h3; exact h3), c1.ntb, c1.tb⟩ ⟨e1.ex, fun a u n h nt => ?_, fun a o h nt => (e1.gr a o h nt).imp id fun ⟨o', fo, z⟩ => ⟨o', fo, by rw [upd_ne (ne_of_none z hp)]; exact z⟩, fun a o fo h => ?_, fun a o h nt => ?_⟩ ⟨hpa, hp0⟩ (c1.Bnone hp) upd_same r1
  · rw [upd_ne (by rintro rfl; rw [c1.Bnone hp] at e; cases e)]
    exact c1.ex a u e
  · obtain ⟨q1, q2⟩ := c1.cells k a s h1 h2
    have ne : a ≠ p := by rintro rfl; exact hpa (List.mem_of_getElem? h1)
    refine ⟨q1, ?_⟩
    obtain ⟨o, q3, q4⟩ := q2
    exact ⟨o, by rw [upd_ne ne]; exact q3, q4⟩
  · rw [upd_ne (by rintro rfl; exact hp0.no h nt)]
    exact e1.fr a u n h nt
  · exact (by
      have h1 := e1.tp a o fo h
      rw [upd_ne (ne_of_none h1 hp)]; exact h1)
  · obtain ⟨o', h', n'⟩ := e1.pr a o h nt
    exact ⟨o', by rw [upd_ne (ne_of_none h' hp)]; exact h', n'⟩
theorem en_lst {ds : List Dat} (h : EvA K tA env S (ds.map Sl.d) S1) (hl : ds.length ≤ sizeLine) : EvN K (tLst tA) env S ds S1 := fun B H as σ c g Q q =>
  h B H as σ c g _ fun vs B1 H1 c1 e1 r1 => ⟨by rw [r1.ds.length]; exact hl, fun p hp => evn_new c c1 e1 hp r1.ds q⟩

/-! ### sequences as they are read -/
/-- the k-th changed thing is a list of ds -/
def LCell (S : List Dat) (k : Nat) (ds : List Dat) : Prop := S[k]? = some (.lst ds) ∨ ∃ p, S[k]? = some (.lsa p ds)
theorem Ok.lcell {B H : Hp} {as : List Addr} {k : Nat} {a : Addr} {ds : List Dat} (c : Ok K B H as S) (ha : as[k]? = some a) (h : LCell S k ds) : B a = none ∧ ∃ vs, H a = some (.lst vs) ∧ Reps K B vs ds := by
  rcases h with h | ⟨p, h⟩
  · obtain ⟨q0, q⟩ := c.cells k a _ ha h
    exact ⟨q0, q.lst⟩
  · obtain ⟨q0, q⟩ := c.cells k a _ ha h
    exact ⟨q0, q.lsa⟩
/-- a list or a tuple (known, or changed now) of ds -/
def Seq (S : List Dat) (x : Sl) (ds : List Dat) : Prop := x = .d (.lst ds) ∨ x = .d (.tup ds) ∨ ∃ k, x = .c k ∧ LCell S k ds
theorem Seq.lst {ds : List Dat} : Seq S (.d (.lst ds)) ds := .inl rfl
theorem Seq.tup {ds : List Dat} : Seq S (.d (.tup ds)) ds := .inr (.inl rfl)
theorem Seq.cell {ds : List Dat} {k : Nat} (h : S[k]? = some (.lst ds)) : Seq S (.c k) ds := .inr (.inr ⟨k, rfl, .inl h⟩)
theorem Seq.cellA {ds : List Dat} {k : Nat} {p : Addr} (h : S[k]? = some (.lsa p ds)) : Seq S (.c k) ds := .inr (.inr ⟨k, rfl, .inr ⟨p, h⟩⟩)
theorem Seq.read {B H : Hp} {as : List Addr} {v : V} {ds : List Dat} (c : Ok K B H as S) (h : Seq S x ds) (r : RepS K B as v x) : ∃ a k vs, v = .ref a ∧ Sq K k H a vs ∧ Reps K B vs ds := by
  rcases h with rfl | rfl | ⟨k, rfl, hk⟩
  · cases r with
    | lst h r => exact ⟨_, true, _, rfl, Or.inl (Or.inl (c.ex _ _ h)), r⟩
  · cases r with
    | tup h r => exact ⟨_, false, _, rfl, Evl.ex_t c.ex h, r⟩
  · obtain ⟨a, ha, rfl⟩ := r
    obtain ⟨_, vs, q1, q2⟩ := c.lcell ha hk
    exact ⟨a, true, vs, rfl, Or.inl (Or.inl q1), q2⟩
/-- .. that is a list -/
def SeqL (S : List Dat) (x : Sl) (ds : List Dat) : Prop := x = .d (.lst ds) ∨ ∃ k, x = .c k ∧ LCell S k ds
theorem SeqL.read {B H : Hp} {as : List Addr} {v : V} {ds : List Dat} (c : Ok K B H as S) (h : SeqL S x ds) (r : RepS K B as v x) : ∃ a vs, v = .ref a ∧ H a = some (.lst vs) ∧ Reps K B vs ds := by
  rcases h with rfl | ⟨k, rfl, hk⟩
  · cases r with
    | lst h r => exact ⟨_, _, rfl, c.ex _ _ h, r⟩
  · obtain ⟨a, ha, rfl⟩ := r
    obtain ⟨_, vs, q1, q2⟩ := c.lcell ha hk
    exact ⟨a, vs, rfl, q1, q2⟩
theorem SeqL.lst {ds : List Dat} : SeqL S (.d (.lst ds)) ds := .inl rfl
theorem SeqL.cell {ds : List Dat} {k : Nat} (h : S[k]? = some (.lst ds)) : SeqL S (.c k) ds := .inr ⟨k, rfl, .inl h⟩
theorem SeqL.cellA {ds : List Dat} {k : Nat} {p : Addr} (h : S[k]? = some (.lsa p ds)) : SeqL S (.c k) ds := .inr ⟨k, rfl, .inr ⟨p, h⟩⟩
theorem sq_or {H : Hp} {a : Addr} {vs : List V} {k : Bool} (h : Sq K k H a vs) : SqL K H a vs ∨ SqT K H a vs := by
  cases k with
  | true => exact .inl h
  | false => exact .inr h
theorem atI_reps {B : Hp} {vs : List V} {ds : List Dat} {i : Int} {d : Dat} (r : Reps K B vs ds) (h : atI ds i = some d) : ∃ v, atI vs i = some v ∧ Rep K B v d := by
  unfold atI at h ⊢
  rw [r.length]
  cases e : ixN ds.length i with
  | none => rw [e] at h; cases h
  | some j =>
    rw [e] at h
    exact r.get h
/-- xs[i] -/
theorem op2_ix {ds : List Dat} {i : Int} (h : Seq S x ds) (hi : atI ds i = some d) : Op2 K (rIx K) x (.d (.int i)) S d := fun B H as v w c h1 h2 Q q => by
  obtain ⟨a, k, vs, rfl, hq, hr⟩ := h.read c h1
  obtain ⟨u, hu, ru⟩ := atI_reps hr hi
  cases h2
  cases k with
  | true => exact .inl ⟨a, vs, i, u, rfl, rfl, hq, hu, q u B H c Evo.refl ru⟩
  | false => exact .inr (.inl ⟨a, vs, i, u, rfl, rfl, hq, hu, q u B H c Evo.refl ru⟩)
end
end RW

set_option Elab.async false
set_option linter.all false
set_option maxRecDepth 100000
set_option maxHeartbeats 4000000
namespace RW
open PySem PySem.Spec PyProof.Rows L2
open Evl (Ex)

/-! ### statements -/
structure Post where
  nx : Env1 → List Dat → Prop := fun _ _ => False
  rt : Dat → List Dat → Prop := fun _ _ => False
  bk : Env1 → List Dat → Prop := fun _ _ => False
  ct : Env1 → List Dat → Prop := fun _ _ => False
  ok : Hp → Hp → List Addr → Prop := fun _ _ _ => True
/-- where a def's body stands: it was entered at B0, H0 with the changed things as0 -/
structure Fr (B0 H0 : Hp) (as0 : List Addr) (Bk : Hp) (B H : Hp) (as : List Addr) : Prop where
  kn : Ex Bk B
  base : as.take as0.length = as0
  evo : Evo B0 H0 as0 B H
  loc : ∀ a ∈ as.drop as0.length, Nn H0 a
def MeetE (K : PySem.W.Frag) (B0 H0 : Hp) (as0 : List Addr) (Bk : Hp) (p : Env1 → List Dat → Prop) (D : L2.St → Hp → Prop) : Prop :=
  ∀ env' S' B' H' as' σ', Fr B0 H0 as0 Bk B' H' as' → Ok K B' H' as' S' → EnvR K B' as' σ' env' → p env' S' → D σ' H'
structure Meets (K : PySem.W.Frag) (B0 H0 : Hp) (as0 : List Addr) (Bk : Hp) (D : Ends) (P : Post) : Prop where
  nx : MeetE K B0 H0 as0 Bk P.nx D.nx
  rt : ∀ v r S' B' H', Ok K B' H' as0 S' → Evo B0 H0 as0 B' H' → Rep K B' v r → P.rt r S' → D.rt v H'
  bk : MeetE K B0 H0 as0 Bk P.bk D.bk
  ct : MeetE K B0 H0 as0 Bk P.ct D.ct
  ok : P.ok B0 H0 as0
/-- run from env, S, where n of the changed things came with the call, it ends in P -/
def SP (K : PySem.W.Frag) (n : Nat) (ts : TS) (env : Env1) (S : List Dat) (P : Post) : Prop :=
  ∀ B0 H0 as0 Bk B H as σ, as0.length = n → Fr B0 H0 as0 Bk B H as → Ok K B H as S → EnvR K B as σ env → ∀ D : Ends, Meets K B0 H0 as0 Bk D P → ts D σ H
section
variable {K : PySem.W.Frag} {n : Nat} {te ta tb tc to ti : TE} {tt : TT} {tA tR : TA} {env env' : Env1} {S S1 S2 S3 : List Dat} {x y z : Sl} {d e : Dat} {ds : List Dat} {r : R2} {P P' : Post} {t u : TS}
  {B B0 B1 B' Bk H H0 H1 H' : Hp} {as as0 as1 : List Addr} {D : Ends} {σ : L2.St} {i : Nat}
theorem Evo.oldN (e : Evo B H as B1 H1) {a : Addr} (h : Nn H1 a) : Nn H a := fun o q => by
  by_cases nt : ∀ ps, o ≠ .tbl ps
  · obtain ⟨o', h', n'⟩ := e.pr a o q nt
    exact (h.no h' n').elim
  · exact Classical.byContradiction fun z => nt fun ps e => z ⟨ps, e⟩
theorem Evo.old (e : Evo B H as B1 H1) {a : Addr} (h : H1 a = none) : Nn H a := e.oldN (.of h)
theorem Ok.upto (c : Ok K B H as S) (k : Nat) : Ok K B H (as.take k) (S.take k) where
  ex := c.ex
  len := by rw [List.length_take, List.length_take, c.len]
  cells := fun j a s h1 h2 => by
    have hk : j < (as.take k).length := (List.getElem?_eq_some_iff.mp h1).1
    rw [List.length_take] at hk
    have hk' : j < k := by omega
    rw [List.getElem?_take_of_lt hk'] at h1 h2
    exact c.cells j a s h1 h2
  nd := c.nd.sublist (List.take_sublist _ _)
  ntb := c.ntb
  tb := fun j d P h hd => by
    have hk : j < (S.take k).length := (List.getElem?_eq_some_iff.mp h).1
    rw [List.length_take] at hk
    have hk' : j < k := by omega
    rw [List.getElem?_take_of_lt hk'] at h ⊢
    exact c.tb j d P h hd
  lk := fun j a s o h1 h2 h3 => by
    have hk : j < (as.take k).length := (List.getElem?_eq_some_iff.mp h1).1
    rw [List.length_take] at hk
    have hk' : j < k := by omega
    rw [List.getElem?_take_of_lt hk'] at h1 h2
    intro C fs f i e q1 q2
    obtain ⟨b, dx, vs, r1, r2⟩ := c.lk j a s o h1 h2 h3 C fs f i e q1 q2
    exact ⟨b, dx, vs, by rw [List.getElem?_take_of_lt (by omega)]; exact r1, r2⟩
theorem Fr.step (f : Fr B0 H0 as0 Bk B H as) (e : Evo B H as B1 H1) : Fr B0 H0 as0 Bk B1 H1 as where
  kn := f.kn.trans e.ex
  base := f.base
  evo := ⟨f.evo.ex.trans e.ex, fun a o hn q nt => e.fr a o (fun hm => by
      rw [← List.take_append_drop as0.length as, f.base] at hm
      rcases List.mem_append.mp hm with z | z
      · exact hn z
      · exact (f.loc a z).no q nt) (f.evo.fr a o hn q nt) nt, fun a o q nt => let ⟨o1, h1, n1⟩ := f.evo.pr a o q nt; (e.gr a o1 h1 n1).elim (fun z => (f.evo.gr a o q nt).elim (fun z2 => .inl (z.trans z2)) fun ⟨o, fo, h⟩ => .inr ⟨o, fo, e.tp a o fo h⟩) .inr, fun a o fo h => e.tp a o fo (f.evo.tp a o fo h), fun a o q nt => let ⟨o1, h1, n1⟩ := f.evo.pr a o q nt; e.pr a o1 h1 n1⟩
  loc := f.loc
theorem Fr.len (f : Fr B0 H0 as0 Bk B H as) : as0.length ≤ as.length := by
  have := congrArg List.length f.base
  rw [List.length_take] at this
  omega
/-- one more changed thing -/
theorem Fr.push {p : Addr} (f : Fr B0 H0 as0 Bk B H as) (h : Nn H0 p) : Fr B0 H0 as0 Bk B H (as ++ [p]) where
  kn := f.kn
  base := by rw [List.take_append_of_le_length f.len]; exact f.base
  evo := f.evo
  loc := fun a ha => by
    rw [List.drop_append_of_le_length f.len] at ha
    rcases List.mem_append.mp ha with z | z
    · exact f.loc a z
    · rw [List.mem_singleton.mp z]; exact h
theorem Ok.push {p : Addr} {s0 : Dat} (c : Ok K B H as S) (hb : B p = none) (ha : p ∉ as) (r : CellAt K B H p s0) (l : ∀ o, H p = some o → LkO as as.length o s0 := by exact fun _ _ _ _ _ _ h => nomatch h) (ht : ∀ P, adrOf s0 = some P → p = P := by exact fun _ h => nomatch h) : Ok K B H (as ++ [p]) (S ++ [s0]) where
  ex := c.ex
  len := by rw [List.length_append, List.length_append, c.len]; rfl
  cells := fun k a s h1 h2 => by
    by_cases hk : k < as.length
    · rw [List.getElem?_append_left hk] at h1
      rw [List.getElem?_append_left (by rw [← c.len]; exact hk)] at h2
      exact c.cells k a s h1 h2
    · have hk2 : ¬ k < S.length := by rw [← c.len]; exact hk
      rw [List.getElem?_append_right (by omega)] at h1 h2
      have e0 : k - as.length = 0 := by
        have := (List.getElem?_eq_some_iff.mp h1).1
        simp at this
        omega
      have e1 : k - S.length = 0 := by rw [← c.len]; exact e0
      rw [e0] at h1
      rw [e1] at h2
      simp at h1 h2
      subst h1 h2
      exact ⟨hb, r⟩
  nd := List.nodup_append.mpr ⟨c.nd, by simp, fun a h1 b h2 => by rw [List.mem_singleton.mp h2]; rintro rfl; exact ha h1⟩
  ntb := c.ntb
  tb := fun k d P h hd => by
    by_cases hk : k < S.length
    · rw [List.getElem?_append_left hk] at h
      rw [List.getElem?_append_left (by rw [c.len]; exact hk)]
      exact c.tb k d P h hd
    · rw [List.getElem?_append_right (by omega)] at h
      have e1 : k - S.length = 0 := by
        have := (List.getElem?_eq_some_iff.mp h).1
        simp at this
        omega
      rw [e1] at h
      simp at h
      subst h
      rw [List.getElem?_append_right (by rw [c.len]; omega), c.len, e1, ht P hd]
      rfl
  lk := fun k a s o h1 h2 h3 => by
    by_cases hk : k < as.length
    · rw [List.getElem?_append_left hk] at h1
      rw [List.getElem?_append_left (by rw [← c.len]; exact hk)] at h2
      intro C fs f i e q1 q2
      obtain ⟨b, dx, vs, r1, r2⟩ := c.lk k a s o h1 h2 h3 C fs f i e q1 q2
      exact ⟨b, dx, vs, by rw [List.getElem?_append_left (by omega)]; exact r1, r2⟩
    · have hk2 : ¬ k < S.length := by rw [← c.len]; exact hk
      rw [List.getElem?_append_right (by omega)] at h1 h2
      have e0 : k - as.length = 0 := by
        have := (List.getElem?_eq_some_iff.mp h1).1
        simp at this
        omega
      have e1 : k - S.length = 0 := by rw [← c.len]; exact e0
      rw [e0] at h1
      rw [e1] at h2
      simp at h1 h2
      subst h1 h2
      have ek : k = as.length := by omega
      subst ek
      intro C fs f i e q1 q2
      obtain ⟨b, dx, vs, r1, r2⟩ := l o h3 C fs f i e q1 q2
      exact ⟨b, dx, vs, by rw [List.getElem?_append_left (by omega)]; exact r1, r2⟩
theorem SP.imp (h : SP K n t env S P) (hn : ∀ env' S', P.nx env' S' → P'.nx env' S') (hr : ∀ r S', P.rt r S' → P'.rt r S') (hb : ∀ env' S', P.bk env' S' → P'.bk env' S') (hc : ∀ env' S', P.ct env' S' → P'.ct env' S') (ho : ∀ B0 H0 as0, P'.ok B0 H0 as0 → P.ok B0 H0 as0 := by exact fun _ _ _ h => h) : SP K n t env S P' :=
  fun B0 H0 as0 Bk B H as σ hl f c g D m => h B0 H0 as0 Bk B H as σ hl f c g D ⟨fun a b c d e f g h i p => m.nx a b c d e f g h i (hn _ _ p), fun a b c d e f g h p => m.rt a b c d e f g h (hr _ _ p),
    fun a b c d e f g h i p => m.bk a b c d e f g h i (hb _ _ p), fun a b c d e f g h i p => m.ct a b c d e f g h i (hc _ _ p), ho _ _ _ m.ok⟩
theorem sp_seq (h : SP K n t env S { P with nx := P'.nx }) (k : ∀ env' S', P'.nx env' S' → SP K n u env' S' P) : SP K n (tSeq t u) env S P := fun B0 H0 as0 Bk B H as σ hl f c g D m =>
  h B0 H0 as0 Bk B H as σ hl f c g { D with nx := u D } ⟨fun env' S' B' H' as' σ' f' c' g' p => k env' S' p B0 H0 as0 Bk B' H' as' σ' hl f' c' g' D m, m.rt, m.bk, m.ct, m.ok⟩
/-- the first one goes on at one place alone -/
theorem sp_then (h : SP K n t env S { P with nx := fun env' S' => env' = env1 ∧ S' = S1 }) (k : SP K n u env1 S1 P) : SP K n (tSeq t u) env S P :=
  sp_seq (P' := { nx := fun env' S' => env' = env1 ∧ S' = S1 }) h fun env' S' ⟨e1, e2⟩ => by subst e1 e2; exact k
theorem sp_next (h : P.nx env S) : SP K n tNext env S P := fun B0 H0 as0 Bk B H as σ hl f c g D m => m.nx env S B H as σ f c g h
theorem sp_break (h : P.bk env S) : SP K n tBreak env S P := fun B0 H0 as0 Bk B H as σ hl f c g D m => m.bk env S B H as σ f c g h
theorem sp_cont (h : P.ct env S) : SP K n tCont env S P := fun B0 H0 as0 Bk B H as σ hl f c g D m => m.ct env S B H as σ f c g h
/-- x = e, and what follows -/
theorem sp_set (h : Ev K te env S x S1) (k : SP K n u (env.set i (some x)) S1 P) : SP K n (tSeq (tAsg te (gName i)) u) env S P := fun B0 H0 as0 Bk B H as σ hl f c g D m =>
  h B H as σ c g _ fun v B1 H1 c1 e1 r1 => k B0 H0 as0 Bk B1 H1 as _ hl (f.step e1) c1 ((g.mono e1.ex).set i r1) D m
theorem sp_set1 (h : Ev K te env S x S1) (k : P.nx (env.set i (some x)) S1) : SP K n (tAsg te (gName i)) env S P := fun B0 H0 as0 Bk B H as σ hl f c g D m =>
  h B H as σ c g _ fun v B1 H1 c1 e1 r1 => m.nx _ S1 B1 H1 as _ (f.step e1) c1 ((g.mono e1.ex).set i r1) k
/-- x = a new list, which will be changed -/
theorem sp_setC (h : EvN K te env S ds S1) (k : SP K n u (env.set i (some (.c S1.length))) (S1 ++ [.lst ds]) P) : SP K n (tSeq (tAsg te (gName i)) u) env S P := fun B0 H0 as0 Bk B H as σ hl f c g D m =>
  h B H as σ c g _ fun p B1 H1 vs c1 e1 hp hb h1 r1 => by
    have hpa := hp.1
    refine k B0 H0 as0 Bk B1 H1 (as ++ [p]) _ hl ((f.step e1).push (f.evo.oldN hp.2)) (c1.push hb hpa (.ofL h1 r1)) (((g.mono e1.ex).grow).set i ?_) D m
    exact ⟨p, by rw [← c1.len]; simp, rfl⟩
/-- return e -/
theorem sp_ret (h : Ev K te env S (.d d) S1) (k : P.rt d (S1.take n)) : SP K n (tRet te) env S P := fun B0 H0 as0 Bk B H as σ hl f c g D m =>
  h B H as σ c g _ fun v B1 H1 c1 e1 r1 => by
    have f1 := f.step e1
    have c2 := c1.upto as0.length
    rw [f1.base] at c2
    subst hl
    exact m.rt v d _ B1 H1 c2 f1.evo r1 k
/-- return xs, a list that was made here and changed -/
theorem sp_retC {j k : Nat} (h : env[j]? = some (some (.c k))) (hs : S[k]? = some (.lst ds)) (hk : n ≤ k) (q : P.rt (.lst ds) (S.take n)) : SP K n (tRet (tVar j)) env S P := fun B0 H0 as0 Bk B H as σ hl f c g D m => by
  obtain ⟨v, h1, a, ha, rfl⟩ := g.2 j _ h
  obtain ⟨hb, q0⟩ := c.cells k a _ ha hs
  obtain ⟨vs, hv, rv⟩ := q0.lst
  refine ⟨.ref a, h1, ?_⟩
  have c2 := c.upto as0.length
  rw [f.base] at c2
  subst hl
  have hd : a ∈ as.drop as0.length := by
    have hkl := (List.getElem?_eq_some_iff.mp ha).1
    refine List.mem_of_getElem? (i := k - as0.length) ?_
    rw [List.getElem?_drop]
    rw [show as0.length + (k - as0.length) = k by omega]
    exact ha
  have hn : a ∉ as0 := by
    intro hm
    have nd := c.nd
    rw [← List.take_append_drop as0.length as, f.base] at nd
    exact (List.nodup_append.mp nd).2.2 a hm a hd rfl
  have h0 := f.loc a hd
  exact m.rt (.ref a) (.lst ds) _ (upd B a (.lst vs)) H (c2.know hv hb hn) ⟨f.evo.ex.trans (Evl.Ex.new hb), f.evo.fr, fun b o hb' nt => by rw [upd_ne (by rintro rfl; exact h0.no hb' nt)]; exact f.evo.gr b o hb' nt, f.evo.tp, f.evo.pr⟩ (.lst upd_same (rv.mono (Evl.Ex.new hb))) q
theorem sp_retN (k : P.rt .non (S.take n)) : SP K n tRetN env S P := fun B0 H0 as0 Bk B H as σ hl f c g D m => by
  have c2 := c.upto as0.length
  rw [f.base] at c2
  subst hl
  exact m.rt .non .non _ B H c2 f.evo .non k
/-- e, and what follows -/
theorem sp_drop (h : Ev K te env S x S1) (k : SP K n u env S1 P) : SP K n (tSeq (tDrop te) u) env S P := fun B0 H0 as0 Bk B H as σ hl f c g D m =>
  h B H as σ c g _ fun v B1 H1 c1 e1 r1 => k B0 H0 as0 Bk B1 H1 as _ hl (f.step e1) c1 (g.mono e1.ex) D m
theorem sp_drop1 (h : Ev K te env S x S1) (k : P.nx env S1) : SP K n (tDrop te) env S P := fun B0 H0 as0 Bk B H as σ hl f c g D m =>
  h B H as σ c g _ fun v B1 H1 c1 e1 r1 => m.nx _ S1 B1 H1 as _ (f.step e1) c1 (g.mono e1.ex) k
theorem sp_if {b : Bool} (h : EvT K tt env S b S1) (h1 : b = true → SP K n t env S1 P) (h2 : b = false → SP K n u env S1 P) : SP K n (tIfS tt t u) env S P := fun B0 H0 as0 Bk B H as σ hl f c g D m =>
  h B H as σ c g _ fun B1 H1 c1 e1 => by
    cases b with
    | true => exact h1 rfl B0 H0 as0 Bk B1 H1 as _ hl (f.step e1) c1 (g.mono e1.ex) D m
    | false => exact h2 rfl B0 H0 as0 Bk B1 H1 as _ hl (f.step e1) c1 (g.mono e1.ex) D m
/-- an if, and what follows -/
theorem sp_ifq {v : TS} {b : Bool} (h : EvT K tt env S b S1) (h1 : b = true → SP K n (tSeq t v) env S1 P) (h2 : b = false → SP K n (tSeq u v) env S1 P) : SP K n (tSeq (tIfS tt t u) v) env S P := fun B0 H0 as0 Bk B H as σ hl f c g D m =>
  h B H as σ c g _ fun B1 H1 c1 e1 => by
    cases b with
    | true => exact h1 rfl B0 H0 as0 Bk B1 H1 as _ hl (f.step e1) c1 (g.mono e1.ex) D m
    | false => exact h2 rfl B0 H0 as0 Bk B1 H1 as _ hl (f.step e1) c1 (g.mono e1.ex) D m
theorem sp_nextq {v : TS} (h : SP K n v env S P) : SP K n (tSeq tNext v) env S P := fun B0 H0 as0 Bk B H as σ hl f c g D m => h B0 H0 as0 Bk B H as σ hl f c g D m
theorem sp_retq {v : TS} (h : SP K n (tRet te) env S P) : SP K n (tSeq (tRet te) v) env S P := fun B0 H0 as0 Bk B H as σ hl f c g D m =>
  h B0 H0 as0 Bk B H as σ hl f c g { D with nx := fun _ _ => True } ⟨fun _ _ _ _ _ _ _ _ _ _ => trivial, m.rt, m.bk, m.ct, m.ok⟩
theorem sp_assoc {v : TS} (h : SP K n (tSeq t (tSeq u v)) env S P) : SP K n (tSeq (tSeq t u) v) env S P := h

/-! ### a def's promise: G args S result S' -/
def SpD (K : PySem.W.Frag) (G : List Sl → List Dat → Dat → List Dat → Prop) : Sp := fun vs H Q _ => ∃ B as S ss r S', Ok K B H as S ∧ RepSs K B as vs ss ∧ G ss S r S' ∧
  ∀ v B' H', Ok K B' H' as S' → Evo B H as B' H' → Rep K B' v r → Q v H'
theorem sp_body {G : List Sl → List Dat → Dat → List Dat → Prop} {N : List Str} {vs : List V} {Q : VK} {E : XK} (h : SpD K G vs H Q E)
    (k : ∀ ss S r S', G ss S r S' → SP K S.length t (ss.map some ++ List.replicate (N.length - ss.length) none) S { rt := fun r' T => r' = r ∧ T = S', nx := fun _ T => r = .non ∧ T.take S.length = S' }) :
    t { nx := fun _ H' => Q .non H', rt := Q } (start N vs) H := by
  obtain ⟨B, as, S, ss, r, S', c, rs, g, q⟩ := h
  refine k ss S r S' g B H as B B H as _ c.len ⟨Evl.Ex.refl B, List.take_length, Evo.refl, fun a ha => ?_⟩ c (EnvR.start rs) _ ⟨fun env' T B' H' as' σ' f c' g' ⟨p1, p2⟩ => ?_, fun v r' T B' H' c' e' r1 ⟨p1, p2⟩ => ?_, fun _ _ _ _ _ _ _ _ _ p => p.elim, fun _ _ _ _ _ _ _ _ _ p => p.elim, trivial⟩
  · rw [List.drop_length] at ha; cases ha
  · subst p1
    have c2 := c'.upto as.length
    rw [f.base, c.len, p2] at c2
    exact q .non B' H' c2 f.evo .non
  · subst p1 p2
    exact q v B' H' c' e' r1
theorem spd_len {G : List Sl → List Dat → Dat → List Dat → Prop} {k : Nat} (h : ∀ ss S r S', G ss S r S' → ss.length = k) : ∀ vs H Q E, SpD K G vs H Q E → vs.length = k := fun vs H Q E q => by
  obtain ⟨B, as, S, ss, r, S', c, rs, g, _⟩ := q
  rw [rs.length]
  exact h ss S r S' g
theorem ev_call {G : List Sl → List Dat → Dat → List Dat → Prop} {ss : List Sl} {E : XK} (h : EvA K tA env S ss S1) (hg : G ss S1 d S2) : Ev K (tCall (SpD K G) [] E tA) env S (.d d) S2 := fun B H as σ c g Q q =>
  h B H as σ c g _ fun vs B1 H1 c1 e1 r1 => ⟨B1, as, S1, ss, d, S2, c1, by rw [List.append_nil]; exact r1, hg, fun v B2 H2 c2 e2 r2 => q v B2 H2 c2 (e1.trans e2) r2⟩
end
end RW

set_option Elab.async false
set_option linter.all false
set_option maxRecDepth 100000
set_option maxHeartbeats 4000000
namespace RW
open PySem PySem.Spec PyProof.Rows L2
open Evl (Ex)
section
variable {K : PySem.W.Frag} {n : Nat} {te ta tb tc to ti : TE} {tt tu : TT} {tA tR : TA} {env env' : Env1} {S S1 S2 S3 : List Dat} {x y z : Sl} {d e : Dat} {ds es : List Dat} {r r' : R2} {P P' : Post} {t u : TS}
  {B B0 B1 B' H H0 H1 H' : Hp} {as as0 as1 : List Addr} {D : Ends} {σ : L2.St} {i : Nat} {a b c : Bool}
/-! ### truth -/
theorem et_test (h : Ev K te env S (.d (.bl b)) S1) : EvT K (tTest te) env S b S1 := fun B H as σ c g Q q => h B H as σ c g _ fun v B1 H1 c1 e1 r1 => by
  cases r1; exact ⟨b, rfl, q B1 H1 c1 e1⟩
theorem et_B (h : Ev K te env S (.d (.bl b)) S1) : EvT K (tB te) env S b S1 := fun B H as σ c g Q q => h B H as σ c g _ fun v B1 H1 c1 e1 r1 => by
  cases r1; exact ⟨b, rfl, q B1 H1 c1 e1⟩
theorem et_yes : EvT K tYes env S true S := fun B H as σ c g Q q => q B H c Evo.refl
theorem et_and (h1 : EvT K tt env S a S1) (h2 : a = true → EvT K tu env S1 b S2) (h3 : a = false → S2 = S1 ∧ b = false) : EvT K (tAnd tt tu) env S b S2 := fun B H as σ c g Q q =>
  h1 B H as σ c g _ fun B1 H1 c1 e1 => by
    cases a with
    | true => exact h2 rfl B1 H1 as σ c1 (g.mono e1.ex) Q fun B2 H2 c2 e2 => q B2 H2 c2 (e1.trans e2)
    | false =>
      obtain ⟨e2, e3⟩ := h3 rfl
      subst e2 e3
      exact q B1 H1 c1 e1
theorem et_or (h1 : EvT K tt env S a S1) (h2 : a = false → EvT K tu env S1 b S2) (h3 : a = true → S2 = S1 ∧ b = true) : EvT K (tOr tt tu) env S b S2 := fun B H as σ c g Q q =>
  h1 B H as σ c g _ fun B1 H1 c1 e1 => by
    cases a with
    | false => exact h2 rfl B1 H1 as σ c1 (g.mono e1.ex) Q fun B2 H2 c2 e2 => q B2 H2 c2 (e1.trans e2)
    | true =>
      obtain ⟨e2, e3⟩ := h3 rfl
      subst e2 e3
      exact q B1 H1 c1 e1
/-- both without change -/
theorem et_andP (h1 : EvT K tt env S a S) (h2 : a = true → EvT K tu env S b S) : EvT K (tAnd tt tu) env S (a && b) S := by
  cases a with
  | true => exact et_and h1 (fun _ => by simpa using h2 rfl) (fun h => by cases h)
  | false => exact et_and h1 (fun h => by cases h) (fun _ => ⟨rfl, rfl⟩)
theorem et_orP (h1 : EvT K tt env S a S) (h2 : a = false → EvT K tu env S b S) : EvT K (tOr tt tu) env S (a || b) S := by
  cases a with
  | false => exact et_or h1 (fun _ => by simpa using h2 rfl) (fun h => by cases h)
  | true => exact et_or h1 (fun h => by cases h) (fun _ => ⟨rfl, rfl⟩)
theorem et_not (h1 : EvT K tt env S a S1) : EvT K (tNot tt) env S (!a) S1 := fun B H as σ c g Q q => h1 B H as σ c g _ fun B1 H1 c1 e1 => q B1 H1 c1 e1
theorem ev_andV (h1 : Ev K ta env S (.d (.bl a)) S) (h2 : a = true → Ev K tb env S (.d (.bl b)) S) : Ev K (tAndV ta tb) env S (.d (.bl (a && b))) S := fun B H as σ c g Q q =>
  h1 B H as σ c g _ fun v B1 H1 c1 e1 r1 => by
    cases r1
    refine ⟨a, rfl, ?_⟩
    cases a with
    | true => exact h2 rfl B1 H1 as σ c1 (g.mono e1.ex) Q fun v B2 H2 c2 e2 r2 => q v B2 H2 c2 (e1.trans e2) r2
    | false => exact q _ B1 H1 c1 e1 (.bl false)
theorem ev_orV (h1 : Ev K ta env S (.d (.bl a)) S) (h2 : a = false → Ev K tb env S (.d (.bl b)) S) : Ev K (tOrV ta tb) env S (.d (.bl (a || b))) S := fun B H as σ c g Q q =>
  h1 B H as σ c g _ fun v B1 H1 c1 e1 r1 => by
    cases r1
    refine ⟨a, rfl, ?_⟩
    cases a with
    | false => exact h2 rfl B1 H1 as σ c1 (g.mono e1.ex) Q fun v B2 H2 c2 e2 r2 => q v B2 H2 c2 (e1.trans e2) r2
    | true => exact q _ B1 H1 c1 e1 (.bl true)
theorem ev_notV (h1 : Ev K ta env S (.d (.bl a)) S1) : Ev K (tNotV ta) env S (.d (.bl (!a))) S1 := fun B H as σ c g Q q =>
  h1 B H as σ c g _ fun v B1 H1 c1 e1 r1 => by
    cases r1
    exact ⟨a, rfl, q _ B1 H1 c1 e1 (.bl _)⟩
theorem ev_if (h : EvT K tt env S b S1) (h1 : b = true → Ev K ta env S1 x S2) (h2 : b = false → Ev K tb env S1 x S2) : Ev K (tIf tt ta tb) env S x S2 := fun B H as σ c g Q q =>
  h B H as σ c g _ fun B1 H1 c1 e1 => by
    cases b with
    | true => exact h1 rfl B1 H1 as σ c1 (g.mono e1.ex) Q fun v B2 H2 c2 e2 r2 => q v B2 H2 c2 (e1.trans e2) r2
    | false => exact h2 rfl B1 H1 as σ c1 (g.mono e1.ex) Q fun v B2 H2 c2 e2 r2 => q v B2 H2 c2 (e1.trans e2) r2
/-- a op b op' c -/
theorem ev_chain (h1 : Ev K ta env S x S1) (h2 : Ev K tb env S1 y S2) (hr : Op2 K r x y S2 (.bl a)) (h3 : a = true → Ev K tc env S2 z S2) (hr' : a = true → Op2 K r' y z S2 (.bl b)) : Ev K (tChain r r' ta tb tc) env S (.d (.bl (a && b))) S2 := fun B H as σ c g Q q =>
  h1 B H as σ c g _ fun v B1 H1 c1 e1 r1 => h2 B1 H1 as σ c1 (g.mono e1.ex) _ fun w B2 H2 c2 e2 r2 => hr B2 H2 as v w c2 (r1.mono e2.ex) r2 _ fun u B3 H3 c3 e3 r3 => by
    cases r3
    refine ⟨a, rfl, ?_⟩
    have e03 := (e1.trans e2).trans e3
    cases a with
    | true => exact h3 rfl B3 H3 as σ c3 (g.mono e03.ex) _ fun w' B4 H4 c4 e4 r4 => hr' rfl B4 H4 as w w' c4 ((r2.mono e3.ex).mono e4.ex) r4 Q fun u B5 H5 c5 e5 r5 => q u B5 H5 c5 ((e03.trans e4).trans e5) r5
    | false => exact q _ B3 H3 c3 e03 (.bl false)
/-- truth of a list, a tuple (if xs:) -/
def tTru (K : PySem.W.Frag) (ta : TE) : TT := fun σ H Q => ta σ H fun x H' => ∃ k, TruV K x H' k ∧ Q k H'
theorem pt_tru {X : Cx} {e : Expr} {ta : TE} (ha : PE X e ta) (he : ∀ whole, isTrue e X.env whole = (do let v ← whole; standAt e.pos; holding [v] (truthy v)) := by intro _; rfl) : PT X e (tTru X.K ta) := pt_truth ha he
theorem isEmpty_reps {vs : List V} {ds : List Dat} (r : Reps K B vs ds) : vs.isEmpty = ds.isEmpty := by cases r <;> rfl
theorem et_seq (h : Ev K ta env S x S1) (hs : Seq S1 x ds) : EvT K (tTru K ta) env S (!ds.isEmpty) S1 := fun B H as σ c g Q q => h B H as σ c g _ fun v B1 H1 c1 e1 r1 => by
  obtain ⟨a, k, vs, rfl, hq, hr⟩ := hs.read c1 r1
  refine ⟨!ds.isEmpty, ?_, q B1 H1 c1 e1⟩
  rw [← isEmpty_reps hr]
  cases k with
  | true => exact .inl ⟨vs, hq, rfl⟩
  | false => exact .inr (.inl ⟨vs, hq, rfl⟩)
theorem et_bl (h : Ev K ta env S (.d (.bl b)) S1) : EvT K (tTru K ta) env S b S1 := fun B H as σ c g Q q => h B H as σ c g _ fun v B1 H1 c1 e1 r1 => by
  cases r1; exact ⟨b, rfl, q B1 H1 c1 e1⟩

/-! ### calls of built-ins by values -/
theorem ev_cb {r : List V → Hp → VK → Prop} {xs : List Sl} (h : EvA K tA env S xs S1) (hc : CallD K r xs S1 d S2) : Ev K (tCB r tA) env S (.d d) S2 := fun B H as σ c g Q q =>
  h B H as σ c g _ fun vs B1 H1 c1 e1 r1 => hc B1 H1 as vs c1 r1 Q fun u B2 H2 c2 e2 r2 => q u B2 H2 c2 (e1.trans e2) r2
def rLenD (K : PySem.W.Frag) : List V → Hp → VK → Prop := fun xs H Q => ∃ p ys, xs = [.ref p] ∧ (SqL K H p ys ∨ SqT K H p ys) ∧ Q (.int ys.length) H
theorem call_lenD {X : Cx} : CallR X (.builtin "len") (rLenD X.K) := call_len_seq
theorem cd_len (h : Seq S x ds) : CallD K (rLenD K) [x] S (.int ds.length) S := fun B H as vs c r Q q => by
  cases r with
  | cons r1 rr =>
    cases rr
    obtain ⟨a, k, ws, rfl, hq, hr⟩ := h.read c r1
    exact ⟨a, ws, rfl, sq_or hq, by rw [hr.length]; exact q _ B H c Evo.refl (.int _)⟩
theorem cd_lenS {ns : List Int} : CallD K (rLenD K) [.d (.scr ns)] S (.int ns.length) S := fun B H as vs c r Q q => by
  cases r with
  | cons r1 rr =>
    cases rr
    cases r1 with
    | scr h =>
      refine ⟨_, _, rfl, .inl (Evl.ex_l c.ex h), ?_⟩
      rw [List.length_map]
      exact q _ B H c Evo.refl (.int _)
theorem cd_sum {ns : List Int} (h : SeqL S x (ns.map Dat.int)) : CallD K (rSum K) [x] S (.int ns.sum) S := fun B H as vs c r Q q => by
  cases r with
  | cons r1 rr =>
    cases rr
    obtain ⟨a, ws, rfl, hq, hr⟩ := h.read c r1
    rw [hr.ints] at hq
    exact ⟨a, ns, rfl, Evl.sq_of hq, q _ B H c Evo.refl (.int _)⟩
theorem cd_all {bs : List Bool} (h : SeqL S x (bs.map Dat.bl)) : CallD K (rAll K) [x] S (.bl (bs.all id)) S := fun B H as vs c r Q q => by
  cases r with
  | cons r1 rr =>
    cases rr
    obtain ⟨a, ws, rfl, hq, hr⟩ := h.read c r1
    rw [hr.bls] at hq
    exact ⟨a, bs, rfl, Evl.sq_of hq, q _ B H c Evo.refl (.bl _)⟩
theorem cd_any {bs : List Bool} (h : SeqL S x (bs.map Dat.bl)) : CallD K (rAny K) [x] S (.bl (bs.any id)) S := fun B H as vs c r Q q => by
  cases r with
  | cons r1 rr =>
    cases rr
    obtain ⟨a, ws, rfl, hq, hr⟩ := h.read c r1
    rw [hr.bls] at hq
    exact ⟨a, bs, rfl, Evl.sq_of hq, q _ B H c Evo.refl (.bl _)⟩
def rTupD (K : PySem.W.Frag) : List V → Hp → VK → Prop := fun xs H Q => ∃ p ys, xs = [.ref p] ∧ ((SqL K H p ys ∧ ∀ l, H l = none → Q (.ref l) (upd H l (.tup ys))) ∨ (SqT K H p ys ∧ Q (.ref p) H))
theorem call_tupD {X : Cx} (hc : X.calm = true) : CallR X (.type "tuple") (rTupD X.K) := by first | exact call_tuple_of | exact call_tuple_of hc
theorem cd_tup (h : SeqL S x ds) : CallD K (rTupD K) [x] S (.tup ds) S := fun B H as vs c r Q q => by
  cases r with
  | cons r1 rr =>
    cases rr
    obtain ⟨a, ws, rfl, hq, hr⟩ := h.read c r1
    exact ⟨a, ws, rfl, .inl ⟨Evl.sq_of hq, fun l hl => q _ (upd B l (.tup ws)) _ (c.new hl) (Evo.new c hl) (.tup (Evl.st_of upd_same) (hr.mono (Evl.Ex.new (c.Bnone hl))))⟩⟩
def rLstD (K : PySem.W.Frag) : List V → Hp → VK → Prop := fun xs H Q => ∃ p ys, xs = [.ref p] ∧ (SqL K H p ys ∨ SqT K H p ys) ∧ ∀ l, H l = none → Q (.ref l) (upd H l (.lst ys))
theorem call_lstD {X : Cx} (hc : X.calm = true) : CallR X (.type "list") (rLstD X.K) := by first | exact call_list_of | exact call_list_of hc
theorem en_list (h : EvA K tA env S [x] S1) (hs : Seq S1 x ds) : EvN K (tCB (rLstD K) tA) env S ds S1 := fun B H as σ c g Q q =>
  h B H as σ c g _ fun vs B1 H1 c1 e1 r1 => by
    cases r1 with
    | cons r1 rr =>
      cases rr
      obtain ⟨a, k, ws, rfl, hq, hr⟩ := hs.read c1 r1
      exact ⟨a, ws, rfl, sq_or hq, fun l hl => evn_new c c1 e1 hl hr q⟩
def rMax2D : List V → Hp → VK → Prop := fun xs H Q => ∃ i j, xs = [.int i, .int j] ∧ Q (.int (if j > i then j else i)) H
theorem call_max2D {X : Cx} (hc : X.calm = true) : CallR X (.builtin "max") rMax2D := call_max2 hc
theorem cd_max2 {i j : Int} : CallD K rMax2D [.d (.int i), .d (.int j)] S (.int (max i j)) S := fun B H as vs c r Q q => by
  cases r with
  | cons r1 rr =>
    cases rr with
    | cons r2 rr =>
      cases rr; cases r1; cases r2
      refine ⟨i, j, rfl, ?_⟩
      have e : (if j > i then j else i) = max i j := by rw [Int.max_def]; split <;> split <;> omega
      rw [e]
      exact q _ B H c Evo.refl (.int _)
def rMin2D : List V → Hp → VK → Prop := fun xs H Q => ∃ i j, xs = [.int i, .int j] ∧ Q (.int (if j < i then j else i)) H
theorem call_min2D {X : Cx} (hc : X.calm = true) : CallR X (.builtin "min") rMin2D := call_min2 hc
theorem cd_min2 {i j : Int} : CallD K rMin2D [.d (.int i), .d (.int j)] S (.int (min i j)) S := fun B H as vs c r Q q => by
  cases r with
  | cons r1 rr =>
    cases rr with
    | cons r2 rr =>
      cases rr; cases r1; cases r2
      refine ⟨i, j, rfl, ?_⟩
      have e : (if j < i then j else i) = min i j := by rw [Int.min_def]; split <;> split <;> omega
      rw [e]
      exact q _ B H c Evo.refl (.int _)
def rAbsD : List V → Hp → VK → Prop := fun xs H Q => ∃ i, xs = [.int i] ∧ Q (.int (if i < 0 then -i else i)) H
theorem call_absD {X : Cx} : CallR X (.builtin "abs") rAbsD := call_abs
theorem cd_abs {i : Int} : CallD K rAbsD [.d (.int i)] S (.int (i.natAbs : Int)) S := fun B H as vs c r Q q => by
  cases r with
  | cons r1 rr =>
    cases rr; cases r1
    refine ⟨i, rfl, ?_⟩
    have e : (if i < 0 then -i else i) = (i.natAbs : Int) := by split <;> omega
    rw [e]
    exact q _ B H c Evo.refl (.int _)
def rIntD : List V → Hp → VK → Prop := fun xs H Q => (∃ i, xs = [.int i] ∧ Q (.int i) H) ∨ ∃ b, xs = [.bl b] ∧ Q (.int (b2i b)) H
theorem call_intD {X : Cx} : CallR X (.type "int") rIntD := call_int1
theorem cd_int {i : Int} : CallD K rIntD [.d (.int i)] S (.int i) S := fun B H as vs c r Q q => by
  cases r with
  | cons r1 rr =>
    cases rr; cases r1
    exact .inl ⟨i, rfl, q _ B H c Evo.refl (.int _)⟩
theorem cd_intB : CallD K rIntD [.d (.bl b)] S (.int (b2i b)) S := fun B H as vs c r Q q => by
  cases r with
  | cons r1 rr =>
    cases rr; cases r1
    exact .inr ⟨b, rfl, q _ B H c Evo.refl (.int _)⟩
end
end RW

set_option Elab.async false
set_option linter.all false
set_option maxRecDepth 100000
set_option maxHeartbeats 4000000
namespace RW
open PySem PySem.Spec PyProof.Rows L2
open Evl (Ex)
section
variable {K : PySem.W.Frag} {n : Nat} {te ta tb tc to ti : TE} {tt tu : TT} {tA tR : TA} {env env' : Env1} {S S1 S2 S3 : List Dat} {x y z : Sl} {d e : Dat} {ds es : List Dat} {r r' : R2} {P P' : Post} {t u : TS}
  {B B0 B1 B' H H0 H1 H' : Hp} {as as0 as1 : List Addr} {D : Ends} {σ : L2.St} {i : Nat} {a b c : Bool}
/-! ### + and slices -/
theorem reps_nil {vs : List V} : Reps K B vs [] → vs = [] := fun h => by cases h; rfl
theorem reps_ne {vs : List V} (r : Reps K B vs ds) : vs = [] ↔ ds = [] := by cases r <;> simp
theorem op2_catT (hl : ds.length + es.length ≤ sizeLine) : Op2 K (rCatA K) (.d (.tup ds)) (.d (.tup es)) S (.tup (ds ++ es)) := fun B H as v w c h1 h2 Q q => by
  cases h1 with
  | tup h1 r1 =>
    cases h2 with
    | tup h2 r2 =>
      rename_i a1 xs a2 ys
      refine ⟨a1, a2, xs, ys, rfl, rfl, Evl.ex_t c.ex h1, Evl.ex_t c.ex h2, by rw [r1.length, r2.length]; exact hl, fun e => ?_, fun _ e => ?_, fun _ _ p hp => ?_⟩
      · have : ds = [] := (reps_ne r1).mp e
        subst this
        exact q _ B H c Evo.refl (.tup h2 r2)
      · have : es = [] := (reps_ne r2).mp e
        subst this
        rw [List.append_nil] at q
        exact q _ B H c Evo.refl (.tup h1 r1)
      · exact q _ (upd B p _) _ (c.new hp) (Evo.new c hp) (.tup (Evl.st_of upd_same) ((r1.append r2).mono (Evl.Ex.new (c.Bnone hp))))
/-- a binary operation that makes a new list -/
theorem en_cat {ds es : List Dat} (ha : Ev K ta env S x S1) (hb : Ev K tb env S1 y S2) (hx : SeqL S2 x ds) (hy : SeqL S2 y es) (hl : ds.length + es.length ≤ sizeLine) : EvN K (tOp rCat ta tb) env S (ds ++ es) S2 := fun B H as σ c g Q q =>
  ha B H as σ c g _ fun v B1 H1 c1 e1 r1 => hb B1 H1 as σ c1 (g.mono e1.ex) _ fun w B2 H2 c2 e2 r2 => by
    obtain ⟨a1, xs, rfl, h1, q1⟩ := hx.read c2 (r1.mono e2.ex)
    obtain ⟨a2, ys, rfl, h2, q2⟩ := hy.read c2 r2
    exact ⟨a1, a2, xs, ys, rfl, rfl, h1, h2, by rw [q1.length, q2.length]; exact hl, fun p hp => evn_new c c2 (e1.trans e2) hp (q1.append q2) q⟩
theorem reps_rep {vs : List V} (r : Reps K B vs ds) : ∀ k : Nat, Reps K B (List.replicate k vs).flatten (List.replicate k ds).flatten
  | 0 => .nil
  | k + 1 => by
    rw [List.replicate_succ, List.replicate_succ, List.flatten_cons, List.flatten_cons]
    exact r.append (reps_rep r k)
theorem en_rep {ds : List Dat} {k : Int} (ha : Ev K ta env S x S1) (hb : Ev K tb env S1 (.d (.int k)) S2) (hx : SeqL S2 x ds) (hk : -(2 ^ 63) ≤ k ∧ k < 2 ^ 63) (hl : ds.length * k.toNat ≤ sizeLine) : EvN K (tOp rRep ta tb) env S (List.replicate k.toNat ds).flatten S2 := fun B H as σ c g Q q =>
  ha B H as σ c g _ fun v B1 H1 c1 e1 r1 => hb B1 H1 as σ c1 (g.mono e1.ex) _ fun w B2 H2 c2 e2 r2 => by
    obtain ⟨a1, xs, rfl, h1, q1⟩ := hx.read c2 (r1.mono e2.ex)
    cases r2
    exact ⟨a1, k, xs, rfl, rfl, h1, hk.1, hk.2, by rw [q1.length]; exact hl, fun p hp => evn_new c c2 (e1.trans e2) hp (reps_rep q1 _) q⟩
def cutD (xs : List Dat) (lo hi : Option Int) : List Dat := (xs.drop (HT.sIx xs.length 0 lo)).take (HT.sIx xs.length xs.length hi - HT.sIx xs.length 0 lo)
theorem reps_cut {vs : List V} (r : Reps K B vs ds) (lo hi : Option Int) : Reps K B (cutV vs lo hi) (cutD ds lo hi) := by
  unfold cutV cutD
  rw [r.length]
  exact (r.drop _).take _
def EvO (K : PySem.W.Frag) (to : TO) (env : Env1) (S : List Dat) (o : Option Int) (S' : List Dat) : Prop :=
  ∀ B H as σ, Ok K B H as S → EnvR K B as σ env → ∀ Q : Option Int → Hp → Prop, (∀ B' H', Ok K B' H' as S' → Evo B H as B' H' → Q o H') → to σ H Q
theorem eo_none : EvO K tNoPart env S none S := fun B H as σ c g Q q => q B H c Evo.refl
theorem eo_some {k : Int} (h : Ev K te env S (.d (.int k)) S1) : EvO K (tPart te) env S (some k) S1 := fun B H as σ c g Q q => h B H as σ c g _ fun v B1 H1 c1 e1 r1 => by
  cases r1; exact ⟨k, rfl, q B1 H1 c1 e1⟩
theorem cutD_whole {lo hi : Option Int} (h : HT.sIx ds.length 0 lo = 0 ∧ HT.sIx ds.length ds.length hi = ds.length) : cutD ds lo hi = ds := by
  unfold cutD
  rw [h.1, h.2, List.drop_zero, Nat.sub_zero, List.take_length]
/-- t[lo:hi], a tuple -/
theorem ev_slT {tl th : TO} {lo hi : Option Int} (h : Ev K te env S (.d (.tup ds)) S1) (hl : EvO K tl env S1 lo S2) (hh : EvO K th env S2 hi S3) : Ev K (tSl (rSlA K) te tl th) env S (.d (.tup (cutD ds lo hi))) S3 := fun B H as σ c g Q q =>
  h B H as σ c g _ fun v B1 H1 c1 e1 r1 => hl B1 H1 as σ c1 (g.mono e1.ex) _ fun B2 H2 c2 e2 => hh B2 H2 as σ c2 (g.mono (e1.trans e2).ex) _ fun B3 H3 c3 e3 => by
    have r3 : Rep K B3 v (.tup ds) := Rep.mono (e2.trans e3).ex r1
    have e03 := (e1.trans e2).trans e3
    cases r3 with
    | tup h1 r1 =>
      refine ⟨_, _, rfl, Evl.ex_t c3.ex h1, fun hw => ?_, fun hw p hp => ?_⟩
      · rw [r1.length] at hw
        rw [cutD_whole hw] at q
        exact q _ B3 H3 c3 e03 (.tup h1 r1)
      · exact q _ (upd B3 p _) _ (c3.new hp) (e03.trans (Evo.new c3 hp)) (.tup (Evl.st_of upd_same) ((reps_cut r1 lo hi).mono (Evl.Ex.new (c3.Bnone hp))))
/-- xs[lo:hi], a list -/
theorem en_slL {tl th : TO} {lo hi : Option Int} (h : Ev K te env S x S1) (hl : EvO K tl env S1 lo S2) (hh : EvO K th env S2 hi S3) (hx : SeqL S3 x ds) : EvN K (tSl (rSlL K) te tl th) env S (cutD ds lo hi) S3 := fun B H as σ c g Q q =>
  h B H as σ c g _ fun v B1 H1 c1 e1 r1 => hl B1 H1 as σ c1 (g.mono e1.ex) _ fun B2 H2 c2 e2 => hh B2 H2 as σ c2 (g.mono (e1.trans e2).ex) _ fun B3 H3 c3 e3 => by
    obtain ⟨a1, xs, rfl, h1, q1⟩ := hx.read c3 (r1.mono (e2.trans e3).ex)
    exact ⟨a1, xs, rfl, Evl.sq_of h1, fun p hp => evn_new c c3 ((e1.trans e2).trans e3) hp (reps_cut q1 lo hi) q⟩

/-! ### what is walked -/
structure WalkD (K : PySem.W.Frag) (B : Hp) (J : It) (G : List Addr → List Dat → Prop) (ds : List Dat) : Prop where
  go : ∀ B2 H2 as2 S2 i, Ex B B2 → Ok K B2 H2 as2 S2 → G as2 S2 → i < ds.length → J.go i H2
  yld : ∀ B2 H2 as2 S2 i x H3, Ex B B2 → Ok K B2 H2 as2 S2 → G as2 S2 → i < ds.length → J.yld i H2 x H3 → ∃ B3 d, Ok K B3 H3 as2 S2 ∧ Evo B2 H2 as2 B3 H3 ∧ ds[i]? = some d ∧ Rep K B3 x d
  stop : ∀ B2 H2 as2 S2, Ex B B2 → Ok K B2 H2 as2 S2 → G as2 S2 → J.stop ds.length H2
def IterD (K : PySem.W.Frag) (wi : TI) (env : Env1) (S : List Dat) (G : List Addr → List Addr → List Dat → Prop) (ds : List Dat) (S1 : List Dat) : Prop :=
  ∀ B H as σ, Ok K B H as S → EnvR K B as σ env → ∀ R : It → Hp → Prop, (∀ J B1 H1, Ok K B1 H1 as S1 → Evo B H as B1 H1 → WalkD K B1 J (G as) ds → R J H1) → wi σ H R
/-- nothing is asked: what is walked is known -/
def G0 : List Addr → List Addr → List Dat → Prop := fun _ _ _ => True
/-- the k-th changed thing, left as it is while it is walked -/
def Gc (k : Nat) (ds : List Dat) : List Addr → List Addr → List Dat → Prop := fun as as2 S2 => as2[k]? = as[k]? ∧ S2[k]? = some (.lst ds)
theorem walk_known {a : Addr} {vs : List V} {k : Bool} (hq : Sq K k B a vs) (r : Reps K B vs ds) (G : List Addr → List Dat → Prop) : WalkD K B (ItS K k a) G ds where
  go := fun B2 H2 as2 S2 i e c _ hi => by
    obtain ⟨v, hv, _⟩ := r.get (List.getElem?_eq_getElem hi)
    cases k with
    | true => exact ⟨vs, v, Evl.ex_l c.ex (Evl.ex_l e hq), hv⟩
    | false => exact ⟨vs, v, Evl.ex_t c.ex (Evl.ex_t e hq), hv⟩
  yld := fun B2 H2 as2 S2 i x H3 e c _ hi y => by
    obtain ⟨v, hv, rv⟩ := r.get (List.getElem?_eq_getElem hi)
    cases k with
    | true =>
      obtain ⟨rfl, y⟩ := y
      have := y vs (Evl.ex_l c.ex (Evl.ex_l e hq))
      rw [hv] at this
      cases this
      exact ⟨B2, _, c, Evo.refl, List.getElem?_eq_getElem hi, rv.mono e⟩
    | false =>
      obtain ⟨rfl, y⟩ := y
      have := y vs (Evl.ex_t c.ex (Evl.ex_t e hq))
      rw [hv] at this
      cases this
      exact ⟨B2, _, c, Evo.refl, List.getElem?_eq_getElem hi, rv.mono e⟩
  stop := fun B2 H2 as2 S2 e c _ => by
    cases k with
    | true => exact ⟨vs, Evl.ex_l c.ex (Evl.ex_l e hq), by rw [r.length]; exact Nat.le_refl _⟩
    | false => exact ⟨vs, Evl.ex_t c.ex (Evl.ex_t e hq), by rw [r.length]; exact Nat.le_refl _⟩
theorem it_lst (h : Ev K te env S (.d (.lst ds)) S1) : IterD K (iSeq K te) env S G0 ds S1 := fun B H as σ c g R q => h B H as σ c g _ fun v B1 H1 c1 e1 r1 => by
  cases r1 with
  | lst h r => exact ⟨_, true, rfl, ⟨_, Evl.sq_of (c1.ex _ _ h)⟩, q _ B1 H1 c1 e1 (walk_known (k := true) (Evl.sq_of h) r _)⟩
theorem it_tup (h : Ev K te env S (.d (.tup ds)) S1) : IterD K (iSeq K te) env S G0 ds S1 := fun B H as σ c g R q => h B H as σ c g _ fun v B1 H1 c1 e1 r1 => by
  cases r1 with
  | tup h r => exact ⟨_, false, rfl, ⟨_, Evl.ex_t c1.ex h⟩, q _ B1 H1 c1 e1 (walk_known (k := false) h r _)⟩
theorem it_cell {k : Nat} (h : Ev K te env S (.c k) S1) (hk : S1[k]? = some (.lst ds)) : IterD K (iSeq K te) env S (Gc k ds) ds S1 := fun B H as σ c g R q => h B H as σ c g _ fun v B1 H1 c1 e1 r1 => by
  obtain ⟨a, ha, rfl⟩ := r1
  obtain ⟨_, q0⟩ := c1.cells k a _ ha hk
  obtain ⟨vs, hv, rv⟩ := q0.lst
  have rd : ∀ {B2 H2 as2 S2}, Ok K B2 H2 as2 S2 → Gc k ds as as2 S2 → ∃ ws, H2 a = some (.lst ws) ∧ Reps K B2 ws ds := fun {B2 H2 as2 S2} c2 g2 => by
    obtain ⟨g1, g2⟩ := g2
    obtain ⟨_, q0⟩ := c2.cells k a _ (g1.trans ha) g2
    obtain ⟨ws, hw, rw'⟩ := q0.lst
    exact ⟨ws, hw, rw'⟩
  refine ⟨a, true, rfl, ⟨vs, Evl.sq_of hv⟩, q _ B1 H1 c1 e1 ⟨fun B2 H2 as2 S2 i e c2 g2 hi => ?_, fun B2 H2 as2 S2 i x H3 e c2 g2 hi y => ?_, fun B2 H2 as2 S2 e c2 g2 => ?_⟩⟩
  · obtain ⟨ws, hw, rw'⟩ := rd c2 g2
    obtain ⟨v, hv, _⟩ := rw'.get (List.getElem?_eq_getElem hi)
    exact ⟨ws, v, Evl.sq_of hw, hv⟩
  · obtain ⟨ws, hw, rw'⟩ := rd c2 g2
    obtain ⟨v, hv, rv⟩ := rw'.get (List.getElem?_eq_getElem hi)
    obtain ⟨rfl, y⟩ := y
    have := y ws (Evl.sq_of hw)
    rw [hv] at this
    cases this
    exact ⟨B2, _, c2, Evo.refl, List.getElem?_eq_getElem hi, rv⟩
  · obtain ⟨ws, hw, rw'⟩ := rd c2 g2
    exact ⟨ws, Evl.sq_of hw, by rw [rw'.length]; exact Nat.le_refl _⟩
theorem it_script {ns : List Int} (h : Ev K te env S (.d (.scr ns)) S1) : IterD K (iSeq K te) env S G0 (ns.map Dat.int) S1 := fun B H as σ c g R q => h B H as σ c g _ fun v B1 H1 c1 e1 r1 => by
  cases r1 with
  | scr h =>
    have rr : ∀ ns : List Int, Reps K B1 (ns.map V.int) (ns.map Dat.int) := fun ns => by
      induction ns with
      | nil => exact .nil
      | cons n ns ih => exact .cons (.int n) ih
    exact ⟨_, true, rfl, ⟨_, Evl.ex_l c1.ex h⟩, q _ B1 H1 c1 e1 (walk_known (k := true) h (rr ns) _)⟩
/-- range(n), range(lo, hi) -/
def rng (lo : Int) (n : Nat) : List Dat := (List.range n).map fun i => Dat.int (lo + (i : Nat))
theorem rng_get {lo : Int} {n i : Nat} (h : i < n) : (rng lo n)[i]? = some (.int (lo + (i : Nat))) := by
  unfold rng
  rw [List.getElem?_map, List.getElem?_range h]
  rfl
theorem rng_len {lo : Int} {n : Nat} : (rng lo n).length = n := by unfold rng; rw [List.length_map, List.length_range]
theorem walk_rng {lo : Int} {n : Nat} {G : List Addr → List Dat → Prop} : WalkD K B (Itr lo n) G (rng lo n) where
  go := fun B2 H2 as2 S2 i _ _ _ hi => by rw [rng_len] at hi; exact hi
  yld := fun B2 H2 as2 S2 i x H3 _ c _ hi y => by
    rw [rng_len] at hi
    obtain ⟨rfl, rfl⟩ := y
    exact ⟨B2, _, c, Evo.refl, rng_get hi, .int _⟩
  stop := fun B2 H2 as2 S2 _ _ _ => by rw [rng_len]; exact Nat.le_refl _
theorem it_range1 {j : Int} (h : EvA K tA env S [.d (.int j)] S1) (hj : -(2 ^ 62) ≤ j ∧ j < 2 ^ 62) : IterD K (iRng1 tA) env S G0 (rng 0 j.toNat) S1 := fun B H as σ c g R q => h B H as σ c g _ fun vs B1 H1 c1 e1 r1 => by
  cases r1 with
  | cons r1 rr =>
    cases rr; cases r1
    exact ⟨j, rfl, hj.1, hj.2, q _ B1 H1 c1 e1 walk_rng⟩
theorem it_range2 {i j : Int} (h : EvA K tA env S [.d (.int i), .d (.int j)] S1) (hi : -(2 ^ 62) ≤ i ∧ i < 2 ^ 62) (hj : -(2 ^ 62) ≤ j ∧ j < 2 ^ 62) : IterD K (iRng2 tA) env S G0 (rng i (j - i).toNat) S1 := fun B H as σ c g R q => h B H as σ c g _ fun vs B1 H1 c1 e1 r1 => by
  cases r1 with
  | cons r1 rr =>
    cases rr with
    | cons r2 rr =>
      cases rr; cases r1; cases r2
      exact ⟨i, j, rfl, ⟨hi.1, hi.2, hj.1, hj.2⟩, q _ B1 H1 c1 e1 walk_rng⟩
/-- zip -/
def zipD (ds es : List Dat) : List Dat := List.zipWith (fun x y => Dat.tup [x, y]) ds es
theorem zipD_len : (zipD ds es).length = min ds.length es.length := by unfold zipD; rw [List.length_zipWith]
theorem zipD_get {i : Nat} {d e : Dat} (h1 : ds[i]? = some d) (h2 : es[i]? = some e) : (zipD ds es)[i]? = some (.tup [d, e]) := by
  unfold zipD
  rw [List.getElem?_zipWith, h1, h2]
/-- a sequence that stays: known data, or a changed thing that no one changes now -/
def GS (x : Sl) (ds : List Dat) : List Addr → List Addr → List Dat → Prop := match x with
  | .d _ => fun _ _ _ => True
  | .c k => fun as as2 S2 => as2[k]? = as[k]? ∧ LCell S2 k ds
theorem seq_stays {v : V} (c : Ok K B H as S) (hx : Seq S x ds) (r : RepS K B as v x) : ∃ a k, v = .ref a ∧ (∃ vs, Sq K k H a vs) ∧ ∀ B2 H2 as2 S2, Ex B B2 → Ok K B2 H2 as2 S2 → GS x ds as as2 S2 → ∃ ws, Sq K k H2 a ws ∧ Reps K B2 ws ds := by
  rcases hx with rfl | rfl | ⟨k, rfl, hk⟩
  · cases r with
    | lst h r => exact ⟨_, true, rfl, ⟨_, Evl.sq_of (c.ex _ _ h)⟩, fun B2 H2 as2 S2 e c2 _ => ⟨_, Evl.sq_of (c2.ex _ _ (e _ _ h)), r.mono e⟩⟩
  · cases r with
    | tup h r => exact ⟨_, false, rfl, ⟨_, Evl.ex_t c.ex h⟩, fun B2 H2 as2 S2 e c2 _ => ⟨_, Evl.ex_t c2.ex (Evl.ex_t e h), r.mono e⟩⟩
  · obtain ⟨a, ha, rfl⟩ := r
    obtain ⟨_, vs, hv, _⟩ := c.lcell ha hk
    refine ⟨a, true, rfl, ⟨vs, Evl.sq_of hv⟩, fun B2 H2 as2 S2 e c2 g2 => ?_⟩
    obtain ⟨g1, g2⟩ := g2
    obtain ⟨_, ws, hw, rw'⟩ := c2.lcell (g1.trans ha) g2
    exact ⟨ws, Evl.sq_of hw, rw'⟩
theorem sq_inj {k : Bool} {a : Addr} {xs ys : List V} (c : Ok K B H as S) (h1 : Sq K k H a xs) (h2 : Sq K k H a ys) (hk : ∀ o : Obj, K.lookup a = some o → False ∨ True) : True := trivial
theorem it_zip (h : EvA K tA env S [x, y] S1) (hx : Seq S1 x ds) (hy : Seq S1 y es) : IterD K (iZipG K tA) env S (fun as as2 S2 => GS x ds as as2 S2 ∧ GS y es as as2 S2) (zipD ds es) S1 := fun B H as σ c g R q => h B H as σ c g _ fun vs B1 H1 c1 e1 r1 => by
  cases r1 with
  | cons r1 rr =>
    cases rr with
    | cons r2 rr =>
      cases rr
      obtain ⟨a1, k1, rfl, ⟨w1, q1⟩, st1⟩ := seq_stays c1 hx r1
      obtain ⟨a2, k2, rfl, ⟨w2, q2⟩, st2⟩ := seq_stays c1 hy r2
      refine ⟨a1, a2, k1, k2, w1, w2, rfl, q1, q2, q _ B1 H1 c1 e1 ⟨fun B2 H2 as2 S2 i e c2 g2 hi => ?_, fun B2 H2 as2 S2 i x H3 e c2 g2 hi y => ?_, fun B2 H2 as2 S2 e c2 g2 => ?_⟩⟩
      · obtain ⟨u1, p1, rp1⟩ := st1 B2 H2 as2 S2 e c2 g2.1
        obtain ⟨u2, p2, rp2⟩ := st2 B2 H2 as2 S2 e c2 g2.2
        rw [zipD_len] at hi
        obtain ⟨v1, hv1, _⟩ := rp1.get (List.getElem?_eq_getElem (show i < ds.length by omega))
        obtain ⟨v2, hv2, _⟩ := rp2.get (List.getElem?_eq_getElem (show i < es.length by omega))
        exact ⟨u1, u2, v1, v2, p1, p2, hv1, hv2⟩
      · obtain ⟨u1, p1, rp1⟩ := st1 B2 H2 as2 S2 e c2 g2.1
        obtain ⟨u2, p2, rp2⟩ := st2 B2 H2 as2 S2 e c2 g2.2
        obtain ⟨T, v1, v2, rfl, hT, rfl, y1, y2⟩ := y
        obtain ⟨d1, hd1, r1⟩ := rp1.get' (y1 u1 p1)
        obtain ⟨d2, hd2, r2⟩ := rp2.get' (y2 u2 p2)
        have hB : Ex B2 (upd B2 T (.tup [v1, v2])) := Evl.Ex.new (c2.Bnone hT)
        exact ⟨upd B2 T (.tup [v1, v2]), .tup [d1, d2], c2.new hT, Evo.new c2 hT, zipD_get hd1 hd2, .tup (Evl.st_of upd_same) (.cons (r1.mono hB) (.cons (r2.mono hB) .nil))⟩
      · obtain ⟨u1, p1, rp1⟩ := st1 B2 H2 as2 S2 e c2 g2.1
        obtain ⟨u2, p2, rp2⟩ := st2 B2 H2 as2 S2 e c2 g2.2
        refine ⟨u1, u2, p1, p2, ?_, ?_, ?_⟩ <;> rw [zipD_len] <;> have := rp1.length <;> have := rp2.length <;> omega

/-! ### targets -/
def TgD (K : PySem.W.Frag) (g : TG) (d : Dat) (is : List Nat) (f : Env1 → Env1) : Prop :=
  ∀ B H as S σ env v, Ok K B H as S → EnvR K B as σ env → Rep K B v d → ∀ Q : L2.St → Hp → Prop, (∀ σ', EnvR K B as σ' (f env) → (∀ vs : List Nat, (∀ i ∈ is, i ∈ vs) → L2.wipe σ' vs = L2.wipe σ vs) → Q σ' H) → g v σ H Q
theorem set_comm_none {σ : L2.St} {i j : Nat} {x : Option V} (h : i ≠ j) : (σ.set i x).set j none = (σ.set j none).set i x := (List.set_comm _ _ h)
theorem wipe_set {σ : L2.St} {i : Nat} {x : Option V} : ∀ {vs : List Nat}, i ∈ vs → L2.wipe (σ.set i x) vs = L2.wipe σ vs
  | [], h => by cases h
  | v :: vs, h => by
    unfold L2.wipe
    by_cases hi : i ∈ vs
    · rw [wipe_set hi]
    · have hv : i = v := by
        rcases List.mem_cons.mp h with h | h
        · exact h
        · exact absurd h hi
      subst hv
      have key : ∀ ws : List Nat, i ∉ ws → L2.wipe (σ.set i x) ws = (L2.wipe σ ws).set i x := by
        intro ws
        induction ws with
        | nil => intro _; rfl
        | cons w ws ih =>
          intro hn
          unfold L2.wipe
          rw [ih (fun z => hn (List.mem_cons_of_mem _ z))]
          exact List.set_comm _ _ (fun z => hn (by rw [z]; exact List.mem_cons_self))
      rw [key vs hi, List.set_set]
theorem tg_name {j : Nat} : TgD K (gName j) d [j] (fun env => env.set j (some (.d d))) := fun B H as S σ env v c g r Q q =>
  q _ (EnvR.set (s := .d d) j g r) fun vs h => wipe_set (h j (by simp))
theorem tg_pair {j k : Nat} : TgD K (gTup K 2 (gCons (gName j) (gCons (gName k) gNil))) (.tup [d, e]) [j, k] (fun env => (env.set j (some (.d d))).set k (some (.d e))) := fun B H as S σ env v c g r Q q => by
  cases r with
  | tup h r =>
    cases r with
    | cons r1 r =>
      cases r with
      | cons r2 r =>
        cases r
        refine ⟨_, _, rfl, Evl.ex_t c.ex h, rfl, _, _, rfl, _, _, rfl, rfl, q _ (EnvR.set (s := .d e) k (EnvR.set (s := .d d) j g r1) r2) fun vs hv => ?_⟩
        rw [wipe_set (hv k (by simp)), wipe_set (hv j (by simp))]
theorem tg_three {j k l : Nat} {f : Dat} : TgD K (gTup K 3 (gCons (gName j) (gCons (gName k) (gCons (gName l) gNil)))) (.tup [d, e, f]) [j, k, l] (fun env => ((env.set j (some (.d d))).set k (some (.d e))).set l (some (.d f))) := fun B H as S σ env v c g r Q q => by
  cases r with
  | tup h r =>
    cases r with
    | cons r1 r =>
      cases r with
      | cons r2 r =>
        cases r with
        | cons r3 r =>
          cases r
          refine ⟨_, _, rfl, Evl.ex_t c.ex h, rfl, _, _, rfl, _, _, rfl, _, _, rfl, rfl, q _ (EnvR.set (s := .d f) l (EnvR.set (s := .d e) k (EnvR.set (s := .d d) j g r1) r2) r3) fun vs hv => ?_⟩
          rw [wipe_set (hv l (by simp)), wipe_set (hv k (by simp)), wipe_set (hv j (by simp))]
/-- (a, b) = e -/
theorem sp_asg {g : TG} {is : List Nat} {f : Env1 → Env1} (h : Ev K te env S (.d d) S1) (hg : TgD K g d is f) (k : SP K n u (f env) S1 P) : SP K n (tSeq (tAsg te g) u) env S P := fun B0 H0 as0 Bk B H as σ hl f0 c g0 D m =>
  h B H as σ c g0 _ fun v B1 H1 c1 e1 r1 => hg B1 H1 as S1 σ env v c1 (g0.mono e1.ex) r1 _ fun σ' g' _ => k B0 H0 as0 Bk B1 H1 as σ' hl (f0.step e1) c1 g' D m

/-! ### for -/
/-- env may know less -/
theorem sp_for {wi : TI} {g : TG} {tb : TS} {G : List Addr → List Addr → List Dat → Prop} (hw : IterD K wi env S G ds S1) (Inv : Nat → Env1 → List Dat → Prop) (h0 : Inv 0 env S1)
    (hG : ∀ i env' S' as as2, Inv i env' S' → as.length = S1.length → as2.length = S'.length → as2.take n = as.take n → G as as2 S')
    (hs : ∀ i d env' S', ds[i]? = some d → Inv i env' S' → ∃ is f, TgD K g d is f ∧ SP K n tb (f env') S' { P with nx := Inv (i + 1), ct := Inv (i + 1), bk := P.nx })
    (hd : ∀ env' S', Inv ds.length env' S' → P.nx env' S') : SP K n (tFor wi g tb) env S P := fun B0 H0 as0 Bk B H as σ hl f0 c g0 D m =>
  hw B H as σ c g0 _ fun J B1 H1 c1 e1 w => by
    subst hl
    have f1 := f0.step e1
    refine ⟨fun i mm σ' H' => mm = ds.length - i ∧ i ≤ ds.length ∧ ∃ env' S' B' as', Fr B0 H0 as0 B1 B' H' as' ∧ Ok K B' H' as' S' ∧ EnvR K B' as' σ' env' ∧ Inv i env' S', ⟨_, rfl, Nat.zero_le _, env, S1, B1, as, ⟨Evl.Ex.refl _, f1.base, f1.evo, f1.loc⟩, c1, g0.mono e1.ex, h0⟩, ?_⟩
    rintro i mm σ' H' ⟨rfl, hi, env', S', B', as', f', c', g', hinv⟩
    have ex' := f'.kn
    have hg := hG i env' S' as as' hinv c1.len c'.len (by rw [f'.base, f1.base])
    by_cases hlt : i < ds.length
    · refine .inr ⟨w.go B' H' as' S' i ex' c' hg hlt, fun σ2 H2 => ∃ env2 S2 B2 as2, Fr B0 H0 as0 B1 B2 H2 as2 ∧ Ok K B2 H2 as2 S2 ∧ EnvR K B2 as2 σ2 env2 ∧ Inv (i + 1) env2 S2, fun σ2 H2 hN => ⟨ds.length - (i + 1), by omega, rfl, hlt, hN⟩, fun x H2 hy => ?_⟩
      obtain ⟨B2, d, c2, e2, hd2, r2⟩ := w.yld B' H' as' S' i x H2 ex' c' hg hlt hy
      obtain ⟨is, f, tg, hbody⟩ := hs i d env' S' hd2 hinv
      refine tg B2 H2 as' S' σ' env' x c2 (g'.mono e2.ex) r2 _ fun σ3 g3 _ => ?_
      have f2 := f'.step e2
      refine hbody B0 H0 as0 B1 B2 H2 as' σ3 rfl f2 c2 g3 _ ⟨?_, m.rt, ?_, ?_, m.ok⟩
      · exact fun env4 S4 B4 H4 as4 σ4 f4 c4 g4 p4 => ⟨env4, S4, B4, as4, f4, c4, g4, p4⟩
      · exact fun env4 S4 B4 H4 as4 σ4 f4 c4 g4 p4 => m.nx env4 S4 B4 H4 as4 σ4 ⟨f1.kn.trans f4.kn, f4.base, f4.evo, f4.loc⟩ c4 g4 p4
      · exact fun env4 S4 B4 H4 as4 σ4 f4 c4 g4 p4 => ⟨env4, S4, B4, as4, f4, c4, g4, p4⟩
    · have e : i = ds.length := by omega
      subst e
      exact .inl ⟨w.stop B' H' as' S' ex' c' hg, m.nx env' S' B' H' as' σ' ⟨f1.kn.trans f'.kn, f'.base, f'.evo, f'.loc⟩ c' g' (hd env' S' hinv)⟩
end
end RW

set_option Elab.async false
set_option linter.all false
set_option maxRecDepth 100000
set_option maxHeartbeats 4000000
namespace RW
open PySem PySem.Spec PyProof.Rows L2
open Evl (Ex)
section
variable {K : PySem.W.Frag} {n : Nat} {te ta tb tc to ti : TE} {tt tu : TT} {tA tR : TA} {env env' : Env1} {S S1 S2 S3 : List Dat} {x y z : Sl} {d e : Dat} {ds es : List Dat} {r r' : R2} {P P' : Post} {t u : TS}
  {B B0 B1 B' H H0 H1 H' : Hp} {as as0 as1 : List Addr} {D : Ends} {σ : L2.St} {i : Nat} {a b c : Bool}
/-- a list that nothing knows, and what it holds -/
structure Acc (K : PySem.W.Frag) (p : Addr) (B H : Hp) (as : List Addr) (acc : List Dat) : Prop where
  nb : B p = none
  na : p ∉ as
  at_ : ∃ vs, H p = some (.lst vs) ∧ Reps K B vs acc
theorem Acc.step {p : Addr} {acc : List Dat} (h : Acc K p B H as acc) (e : Evo B H as B1 H1) : Acc K p B1 H1 as acc := by
  obtain ⟨vs, h1, h2⟩ := h.at_
  have h3 := e.fr p _ h.na h1 (fun _ z => nomatch z)
  refine ⟨?_, h.na, vs, h3, h2.mono e.ex⟩
  rcases e.gr p _ h1 (fun _ z => nomatch z) with z | ⟨o, fo, z⟩
  · exact z.trans h.nb
  · rw [h3] at z; cases z; exact fo.lst.elim
/-- a list that nothing knows may change -/
theorem Ok.other {p : Addr} {o : HO} (c : Ok K B H as S) (hb : B p = none) (ha : p ∉ as) : Ok K B (upd H p o) as S where
  ex := fun a u q => by
    rw [upd_ne (by rintro rfl; rw [hb] at q; cases q)]
    exact c.ex a u q
  len := c.len
  cells := fun k a s h1 h2 => by
    obtain ⟨q1, q2⟩ := c.cells k a s h1 h2
    have ne : a ≠ p := by rintro rfl; exact ha (List.mem_of_getElem? h1)
    refine ⟨q1, ?_⟩
    obtain ⟨o, q3, q4⟩ := q2
    exact ⟨o, by rw [upd_ne ne]; exact q3, q4⟩
  nd := c.nd
  ntb := c.ntb
  tb := c.tb
  lk := fun k a s o h1 h2 h3 => by
    have ne : a ≠ p := by rintro rfl; exact ha (List.mem_of_getElem? h1)
    rw [upd_ne ne] at h3
    exact c.lk k a s o h1 h2 h3
theorem Evo.other {p : Addr} {o : HO} (e : Evo B H as B1 H1) (hp : Nn H p) (hn : ∀ ps, o ≠ .tbl ps := by exact fun _ z => nomatch z) : Evo B H as B1 (upd H1 p o) :=
  ⟨e.ex, fun a u n q nt => by rw [upd_ne (by rintro rfl; exact hp.no q nt)]; exact e.fr a u n q nt, fun a u q nt => by rw [upd_ne (by rintro rfl; exact hp.no q nt)]; exact e.gr a u q nt, fun a u fo q => by
    rw [upd_ne (by rintro rfl; obtain ⟨ps, rfl⟩ := hp u q; exact fo.tbl)]; exact e.tp a u fo q, fun a u q nt => by rw [upd_ne (by rintro rfl; exact hp.no q nt)]; exact e.pr a u q nt⟩
theorem Acc.snoc {p : Addr} {acc : List Dat} {v : V} (h : Acc K p B H as acc) (r : Rep K B v d) : ∃ vs, H p = some (.lst vs) ∧ vs.length = acc.length ∧ Acc K p B (upd H p (.lst (vs ++ [v]))) as (acc ++ [d]) := by
  obtain ⟨vs, h1, h2⟩ := h.at_
  exact ⟨vs, h1, h2.length, h.nb, h.na, _, upd_same, h2.append (.cons r .nil)⟩
/-- [e for target in iter if test] -/
theorem en_lc {wi : TI} {g : TG} {vs : List Nat} {G : List Addr → List Addr → List Dat → Prop} (hw : IterD K wi env S G ds S1) (hz : ds.length ≤ sizeLine) (Inv : Nat → List Dat → List Dat → Prop) (h0 : Inv 0 [] S1)
    (hG : ∀ i acc S', Inv i acc S' → ∀ as : List Addr, as.length = S1.length → as.length = S'.length → G as as S')
    (hs : ∀ i d acc S', ds[i]? = some d → Inv i acc S' → ∃ is f b S2, TgD K g d is f ∧ (∀ i ∈ is, i ∈ vs) ∧ EvT K tt (f (wipeE env vs)) S' b S2 ∧
      (b = true → ∃ r S3, Ev K te (f (wipeE env vs)) S2 (.d r) S3 ∧ Inv (i + 1) (acc ++ [r]) S3) ∧ (b = false → Inv (i + 1) acc S2))
    {S' : List Dat} (hd : ∀ acc S2, Inv ds.length acc S2 → acc = es ∧ S2 = S') : EvN K (tLc wi g tt te vs) env S es S' := fun B H as σ c g0 Q q =>
  hw B H as σ c g0 _ fun J B1 H1 c1 e1 w Dl hDl => by
    have hD0 : Nn H Dl := e1.old hDl
    have c1' : Ok K B1 (upd H1 Dl (.lst [])) as S1 := c1.other (c1.Bnone hDl) (c1.fresh hDl)
    have e1' : Evo B H as B1 (upd H1 Dl (.lst [])) := e1.other hD0
    refine ⟨fun i mm H' => mm = ds.length - i ∧ i ≤ ds.length ∧ ∃ S' B' acc, Ok K B' H' as S' ∧ Evo B H as B' H' ∧ Ex B1 B' ∧ Acc K Dl B' H' as acc ∧ acc.length ≤ i ∧ Inv i acc S', ⟨_, rfl, Nat.zero_le _, S1, B1, [], c1', e1', Evl.Ex.refl _, ⟨c1.Bnone hDl, c1.fresh hDl, [], upd_same, .nil⟩, Nat.zero_le _, h0⟩, ?_⟩
    rintro i mm H' ⟨rfl, hi, S', B', acc, c', e', ex', hacc, hal, hinv⟩
    have hg := hG i acc S' hinv as c1.len c'.len
    by_cases hlt : i < ds.length
    · refine .inr ⟨w.go B' H' as S' i ex' c' hg hlt, fun H2 => ∃ S2 B2 acc2, Ok K B2 H2 as S2 ∧ Evo B H as B2 H2 ∧ Ex B1 B2 ∧ Acc K Dl B2 H2 as acc2 ∧ acc2.length ≤ i + 1 ∧ Inv (i + 1) acc2 S2, fun H2 hN => ⟨ds.length - (i + 1), by omega, rfl, hlt, hN⟩, fun x H2 hy => ?_⟩
      obtain ⟨B2, d, c2, e2, hd2, r2⟩ := w.yld B' H' as S' i x H2 ex' c' hg hlt hy
      obtain ⟨is, f, b, S2, tg, his, htt, ht, hf⟩ := hs i d acc S' hd2 hinv
      have gw : EnvR K B2 as (L2.wipe σ vs) (wipeE env vs) := ((g0.mono e1.ex).wipe vs).mono (ex'.trans e2.ex)
      refine tg B2 H2 as S' _ _ x c2 gw r2 _ fun σ3 g3 hw3 => ⟨?_, ?_⟩
      · rw [hw3 vs his]
        have : ∀ ws : List Nat, (∀ j ∈ ws, j ∈ vs) → L2.wipe (L2.wipe σ vs) ws = L2.wipe σ vs := by
          intro ws
          induction ws with
          | nil => intro _; rfl
          | cons j ws ih =>
            intro h
            show (L2.wipe (L2.wipe σ vs) ws).set j none = L2.wipe σ vs
            have e0 : L2.wipe (L2.wipe σ vs) ws = L2.wipe σ vs := ih fun k hk => h k (List.mem_cons_of_mem _ hk)
            rw [e0]
            have hj := h j List.mem_cons_self
            have key : ∀ (us : List Nat), j ∈ us → (L2.wipe σ us).set j none = L2.wipe σ us := by
              intro us
              induction us with
              | nil => intro h; cases h
              | cons k us ih =>
                intro hk
                unfold L2.wipe
                by_cases hj : j = k
                · subst hj; rw [List.set_set]
                · rw [List.set_comm _ _ (fun z => hj z.symm)]
                  rw [ih ((List.mem_cons.mp hk).resolve_left hj)]
            exact key vs hj
        exact this vs fun _ h => h
      · refine htt B2 H2 as σ3 c2 g3 _ fun B3 H3 c3 e3 => ?_
        have ac3 := (hacc.step e2).step e3
        have e03 := (e'.trans e2).trans e3
        have ex3 := (ex'.trans e2.ex).trans e3.ex
        cases b with
        | false => exact ⟨S2, B3, acc, c3, e03, ex3, ac3, by omega, hf rfl⟩
        | true =>
          obtain ⟨r, S3, hev, hinv'⟩ := ht rfl
          show te σ3 H3 _
          refine hev B3 H3 as σ3 c3 (g3.mono e3.ex) _ fun v B4 H4 c4 e4 r4 => ?_
          have ac4 := ac3.step e4
          obtain ⟨ws, hw4, hl4, ac5⟩ := ac4.snoc r4
          refine ⟨ws, hw4, by rw [hl4]; omega, S3, B4, acc ++ [r], c4.other ac4.nb ac4.na, (e03.trans e4).other hD0, ex3.trans e4.ex, ac5, by rw [List.length_append]; simp; omega, hinv'⟩
    · have e : i = ds.length := by omega
      subst e
      obtain ⟨e1, e2⟩ := hd acc S' hinv
      subst e1 e2
      obtain ⟨ws, hw4, hr4⟩ := hacc.at_
      exact .inl ⟨w.stop B' H' as S' ex' c' hg, q Dl B' H' ws c' e' ⟨hacc.na, hD0⟩ hacc.nb hw4 hr4⟩
/-- without a test, each element by itself -/
theorem en_map {wi : TI} {g : TG} {vs : List Nat} {G : List Addr → List Addr → List Dat → Prop} {is : List Nat} (hw : IterD K wi env S G ds S1) (hz : ds.length ≤ sizeLine)
    (hG : ∀ as : List Addr, as.length = S1.length → G as as S1) (his : ∀ i ∈ is, i ∈ vs) (f : Dat → Env1 → Env1) (F : Dat → Dat)
    (hs : ∀ (i : Nat) (d : Dat), ds[i]? = some d → TgD K g d is (f d) ∧ Ev K te (f d (wipeE env vs)) S1 (.d (F d)) S1) : EvN K (tLc wi g tYes te vs) env S (ds.map F) S1 := by
  refine en_lc (es := ds.map F) (S' := S1) hw hz (fun i acc S' => acc = (ds.take i).map F ∧ S' = S1) ⟨by simp, rfl⟩ (fun i acc S' h as l1 l2 => by rw [h.2]; exact hG as l1) (fun i d acc S' hd h => ?_) (fun acc S2 h => ?_)
  · obtain ⟨rfl, rfl⟩ := h
    obtain ⟨tg, hev⟩ := hs i d hd
    refine ⟨is, f d, true, S', tg, his, et_yes, fun _ => ⟨_, _, hev, ?_, rfl⟩, fun h => by cases h⟩
    have hl := (List.getElem?_eq_some_iff.mp hd).1
    have e : ds[i] = d := (List.getElem?_eq_some_iff.mp hd).2
    rw [List.take_succ_eq_append_getElem hl, e, List.map_append]
    rfl
  · obtain ⟨rfl, rfl⟩ := h
    exact ⟨by rw [List.take_length], rfl⟩
/-- with a test -/
theorem en_filter {wi : TI} {g : TG} {vs : List Nat} {G : List Addr → List Addr → List Dat → Prop} {is : List Nat} (hw : IterD K wi env S G ds S1) (hz : ds.length ≤ sizeLine)
    (hG : ∀ as : List Addr, as.length = S1.length → G as as S1) (his : ∀ i ∈ is, i ∈ vs) (f : Dat → Env1 → Env1) (F : Dat → Dat) (T : Dat → Bool)
    (hs : ∀ (i : Nat) (d : Dat), ds[i]? = some d → TgD K g d is (f d) ∧ EvT K tt (f d (wipeE env vs)) S1 (T d) S1 ∧ (T d = true → Ev K te (f d (wipeE env vs)) S1 (.d (F d)) S1)) : EvN K (tLc wi g tt te vs) env S ((ds.filter T).map F) S1 := by
  refine en_lc (es := (ds.filter T).map F) (S' := S1) hw hz (fun i acc S' => acc = ((ds.take i).filter T).map F ∧ S' = S1) ⟨by simp, rfl⟩ (fun i acc S' h as l1 l2 => by rw [h.2]; exact hG as l1) (fun i d acc S' hd h => ?_) (fun acc S2 h => ?_)
  · obtain ⟨rfl, rfl⟩ := h
    obtain ⟨tg, htt, hev⟩ := hs i d hd
    have hl := (List.getElem?_eq_some_iff.mp hd).1
    have e : ds[i] = d := (List.getElem?_eq_some_iff.mp hd).2
    refine ⟨is, f d, T d, S', tg, his, htt, fun h => ⟨_, _, hev h, ?_, rfl⟩, fun h => ⟨?_, rfl⟩⟩
    · rw [List.take_succ_eq_append_getElem hl, e, List.filter_append, List.map_append]
      simp [h]
    · rw [List.take_succ_eq_append_getElem hl, e, List.filter_append, List.map_append]
      simp [h]
  · obtain ⟨rfl, rfl⟩ := h
    exact ⟨by rw [List.take_length], rfl⟩
end
end RW

set_option Elab.async false
set_option linter.all false
set_option maxRecDepth 100000
set_option maxHeartbeats 4000000
namespace RW
open PySem PySem.Spec PyProof.Rows L2
open Evl (Ex)
section
variable {K : PySem.W.Frag} {n : Nat} {te ta tb tc to ti : TE} {tt tu : TT} {tA tR : TA} {env env' : Env1} {S S1 S2 S3 : List Dat} {x y z : Sl} {d e : Dat} {ds es : List Dat} {r r' : R2} {P P' : Post} {t u : TS}
  {B B0 B1 B' H H0 H1 H' : Hp} {as as0 as1 : List Addr} {D : Ends} {σ : L2.St} {i : Nat} {a b c : Bool}
theorem wipe_none {j : Nat} : ∀ {us : List Nat}, j ∈ us → (L2.wipe σ us).set j none = L2.wipe σ us
  | [], h => by cases h
  | k :: us, hk => by
    show ((L2.wipe σ us).set k none).set j none = (L2.wipe σ us).set k none
    by_cases hj : j = k
    · subst hj; rw [List.set_set]
    · rw [List.set_comm _ _ (fun z => hj z.symm), wipe_none ((List.mem_cons.mp hk).resolve_left hj)]
theorem wipe_wipe {vs : List Nat} : ∀ {ws : List Nat}, (∀ j ∈ ws, j ∈ vs) → L2.wipe (L2.wipe σ vs) ws = L2.wipe σ vs
  | [], _ => rfl
  | j :: ws, h => by
    show (L2.wipe (L2.wipe σ vs) ws).set j none = L2.wipe σ vs
    rw [wipe_wipe fun k hk => h k (List.mem_cons_of_mem _ hk), wipe_none (h j List.mem_cons_self)]
theorem flat_take {α β : Type} (f : α → List β) {l : List α} {i : Nat} {x : α} (h : l[i]? = some x) : (l.take (i + 1)).flatMap f = (l.take i).flatMap f ++ f x := by
  obtain ⟨hl, e⟩ := List.getElem?_eq_some_iff.mp h
  rw [List.take_succ_eq_append_getElem hl, e, List.flatMap_append]
  simp
theorem flat_le {α β : Type} (f : α → List β) {l : List α} {i : Nat} {x : α} (h : l[i]? = some x) : ((l.take i).flatMap f).length + (f x).length ≤ (l.flatMap f).length := by
  have h1 : (l.take (i + 1)).flatMap f ++ (l.drop (i + 1)).flatMap f = l.flatMap f := by
    rw [← List.flatMap_append, List.take_append_drop]
  rw [← h1, flat_take f h, List.length_append, List.length_append]
  omega
theorem map_take {α β : Type} (f : α → β) {l : List α} {i : Nat} {x : α} (h : l[i]? = some x) : (l.take (i + 1)).map f = (l.take i).map f ++ [f x] := by
  obtain ⟨hl, e⟩ := List.getElem?_eq_some_iff.mp h
  rw [List.take_succ_eq_append_getElem hl, e, List.map_append]
  rfl
/-- [e for x in xs for y in ..] -/
theorem en_flat {wi wi1 : TI} {g g1 : TG} {vs vs1 : List Nat} {G G1 : List Addr → List Addr → List Dat → Prop} {is is1 : List Nat} (hw : IterD K wi env S G ds S1) (inn : Dat → List Dat) (F : Dat → Dat → Dat)
    (hz : (ds.flatMap fun d => (inn d).map (F d)).length ≤ sizeLine) (hG : ∀ as : List Addr, as.length = S1.length → G as as S1) (hG1 : ∀ as : List Addr, as.length = S1.length → G1 as as S1)
    (his : ∀ i ∈ is, i ∈ vs) (his1 : ∀ i ∈ is1, i ∈ vs1) (hv1 : ∀ i ∈ vs1, i ∈ vs) (f : Dat → Env1 → Env1) (f1 : Dat → Dat → Env1 → Env1)
    (hs : ∀ (i : Nat) (d : Dat), ds[i]? = some d → TgD K g d is (f d) ∧ IterD K wi1 (f d (wipeE env vs)) S1 G1 (inn d) S1 ∧ ∀ (j : Nat) (e : Dat), (inn d)[j]? = some e →
      TgD K g1 e is1 (f1 d e) ∧ Ev K te (f1 d e (wipeE (f d (wipeE env vs)) vs1)) S1 (.d (F d e)) S1) :
    EvN K (tLc2 wi g tYes wi1 g1 tYes te vs vs1) env S (ds.flatMap fun d => (inn d).map (F d)) S1 := fun B H as σ c g0 Q q =>
  hw B H as σ c g0 _ fun J B1 H1 c1 e1 w Dl hDl => by
    have hD0 : Nn H Dl := e1.old hDl
    have c1' : Ok K B1 (upd H1 Dl (.lst [])) as S1 := c1.other (c1.Bnone hDl) (c1.fresh hDl)
    have e1' : Evo B H as B1 (upd H1 Dl (.lst [])) := e1.other hD0
    have hg := hG as c1.len
    have hg1 := hG1 as c1.len
    refine ⟨fun i mm H' => mm = ds.length - i ∧ i ≤ ds.length ∧ ∃ B', Ok K B' H' as S1 ∧ Evo B H as B' H' ∧ Ex B1 B' ∧ Acc K Dl B' H' as ((ds.take i).flatMap fun d => (inn d).map (F d)), ⟨_, rfl, Nat.zero_le _, B1, c1', e1', Evl.Ex.refl _, ⟨c1.Bnone hDl, c1.fresh hDl, [], upd_same, .nil⟩⟩, ?_⟩
    rintro i mm H' ⟨rfl, hi, B', c', e', ex', hacc⟩
    by_cases hlt : i < ds.length
    · refine .inr ⟨w.go B' H' as S1 i ex' c' hg hlt, fun H2 => ∃ B2, Ok K B2 H2 as S1 ∧ Evo B H as B2 H2 ∧ Ex B1 B2 ∧ Acc K Dl B2 H2 as ((ds.take (i + 1)).flatMap fun d => (inn d).map (F d)), fun H2 hN => ⟨ds.length - (i + 1), by omega, rfl, hlt, hN⟩, fun x H2 hy => ?_⟩
      obtain ⟨B2, d, c2, e2, hd2, r2⟩ := w.yld B' H' as S1 i x H2 ex' c' hg hlt hy
      obtain ⟨tg, hw1, hin⟩ := hs i d hd2
      have gw : EnvR K B2 as (L2.wipe σ vs) (wipeE env vs) := ((g0.mono e1.ex).wipe vs).mono (ex'.trans e2.ex)
      refine tg B2 H2 as S1 _ _ x c2 gw r2 _ fun σ3 g3 hw3 => ⟨?_, ?_⟩
      · rw [hw3 vs his, wipe_wipe fun _ h => h]
      · show wi1 σ3 H2 _
        refine hw1 B2 H2 as σ3 c2 g3 _ fun J1 B3 H3 c3 e3 w1 => ?_
        have ac3 := (hacc.step e2).step e3
        have e03 := (e'.trans e2).trans e3
        have ex3 := (ex'.trans e2.ex).trans e3.ex
        refine ⟨fun j kk H5 => kk = (inn d).length - j ∧ j ≤ (inn d).length ∧ ∃ B5, Ok K B5 H5 as S1 ∧ Evo B H as B5 H5 ∧ Ex B3 B5 ∧ Acc K Dl B5 H5 as (((ds.take i).flatMap fun d => (inn d).map (F d)) ++ ((inn d).take j).map (F d)),
          ⟨_, rfl, Nat.zero_le _, B3, c3, e03, Evl.Ex.refl _, by simpa using ac3⟩, ?_⟩
        rintro j kk H5 ⟨rfl, hj, B5, c5, e5, ex5, ac5⟩
        by_cases hlj : j < (inn d).length
        · refine .inr ⟨w1.go B5 H5 as S1 j ex5 c5 hg1 hlj, fun H6 => ∃ B6, Ok K B6 H6 as S1 ∧ Evo B H as B6 H6 ∧ Ex B3 B6 ∧ Acc K Dl B6 H6 as (((ds.take i).flatMap fun d => (inn d).map (F d)) ++ ((inn d).take (j + 1)).map (F d)), fun H6 hN => ⟨(inn d).length - (j + 1), by omega, rfl, hlj, hN⟩, fun x6 H6 hy6 => ?_⟩
          obtain ⟨B6, e6, c6, ev6, he6, r6⟩ := w1.yld B5 H5 as S1 j x6 H6 ex5 c5 hg1 hlj hy6
          obtain ⟨tg1, hev⟩ := hin j e6 he6
          have gw1 : EnvR K B6 as (L2.wipe σ3 vs1) (wipeE (f d (wipeE env vs)) vs1) := (((g3.mono e3.ex).mono ex5).wipe vs1).mono ev6.ex
          refine tg1 B6 H6 as S1 _ _ x6 c6 gw1 r6 _ fun σ7 g7 hw7 => ⟨?_, ?_⟩
          · rw [hw7 vs1 his1, wipe_wipe fun _ h => h]
          · show te σ7 H6 _
            refine hev B6 H6 as σ7 c6 g7 _ fun v B7 H7 c7 e7 r7 => ?_
            have ac7 := (ac5.step ev6).step e7
            obtain ⟨ws, hw8, hl8, ac8⟩ := ac7.snoc r7
            refine ⟨ws, hw8, ?_, B7, c7.other ac7.nb ac7.na, ((e5.trans ev6).trans e7).other hD0, (ex5.trans ev6.ex).trans e7.ex, ?_⟩
            · have hb := flat_le (fun d => (inn d).map (F d)) hd2
              rw [hl8, List.length_append, List.length_map, List.length_take]
              rw [List.length_map] at hb
              omega
            · rw [map_take (F d) he6, ← List.append_assoc]
              exact ac8
        · have ej : j = (inn d).length := by omega
          subst ej
          refine .inl ⟨w1.stop B5 H5 as S1 ex5 c5 hg1, B5, c5, e5, ex3.trans ex5, ?_⟩
          rw [flat_take (fun d => (inn d).map (F d)) hd2]
          rw [List.take_length] at ac5
          exact ac5
    · have e : i = ds.length := by omega
      subst e
      rw [List.take_length] at hacc
      obtain ⟨ws, hw4, hr4⟩ := hacc.at_
      exact .inl ⟨w.stop B' H' as S1 ex' c' hg, q Dl B' H' ws c' e' ⟨hacc.na, hD0⟩ hacc.nb hw4 hr4⟩
end
end RW

set_option Elab.async false
set_option linter.all false
set_option maxRecDepth 100000
set_option maxHeartbeats 4000000
namespace RW
open PySem PySem.Spec PyProof.Rows L2
open Evl (Ex)
section
variable {K : PySem.W.Frag} {n : Nat} {te ta tb tc to ti tv : TE} {tt tu : TT} {tA tR : TA} {env env' : Env1} {S S1 S2 S3 : List Dat} {x y z : Sl} {d e : Dat} {ds es : List Dat} {r r' : R2} {P P' : Post} {t u : TS}
  {B B0 B1 B' H H0 H1 H' : Hp} {as as0 as1 : List Addr} {D : Ends} {σ : L2.St} {i k : Nat} {a b c : Bool}
/-! ### what is changed -/
theorem Ok.setc {p : Addr} {o : HO} {s : Dat} (c : Ok K B H as S) (hk : as[k]? = some p) (r : CellO K B o s) (l : LkO as k o s := by exact fun _ _ _ _ h => nomatch h) (ht : ∀ P, adrOf s = some P → p = P := by exact fun _ h => nomatch h) : Ok K B (upd H p o) as (S.set k s) where
  ex := fun a u q => by
    have hl : k < S.length := by rw [← c.len]; exact (List.getElem?_eq_some_iff.mp hk).1
    obtain ⟨hb, _⟩ := c.cells k p S[k] hk (List.getElem?_eq_getElem hl)
    rw [upd_ne (by rintro rfl; rw [hb] at q; cases q)]
    exact c.ex a u q
  len := by rw [List.length_set]; exact c.len
  cells := fun j a s' h1 h2 => by
    by_cases hj : k = j
    · subst hj
      have hl : k < S.length := by rw [← c.len]; exact (List.getElem?_eq_some_iff.mp hk).1
      rw [List.getElem?_set_self hl] at h2
      cases h2
      rw [hk] at h1
      cases h1
      exact ⟨(c.cells k p S[k] hk (List.getElem?_eq_getElem hl)).1, o, upd_same, r⟩
    · rw [List.getElem?_set_ne hj] at h2
      obtain ⟨q1, o', q3, q4⟩ := c.cells j a s' h1 h2
      have ne : a ≠ p := by
        rintro rfl
        have hkl := (List.getElem?_eq_some_iff.mp hk).1
        exact hj ((List.getElem_inj (h₀ := hkl) (h₁ := (List.getElem?_eq_some_iff.mp h1).1) c.nd).mp (by rw [(List.getElem?_eq_some_iff.mp hk).2, (List.getElem?_eq_some_iff.mp h1).2]))
      exact ⟨q1, o', by rw [upd_ne ne]; exact q3, q4⟩
  nd := c.nd
  ntb := c.ntb
  tb := fun j d P h hd => by
    by_cases hj : k = j
    · subst hj
      have hl : k < S.length := by rw [← c.len]; exact (List.getElem?_eq_some_iff.mp hk).1
      rw [List.getElem?_set_self hl] at h
      rw [hk, ht P (by rw [Option.some.inj h]; exact hd)]
    · rw [List.getElem?_set_ne hj] at h
      exact c.tb j d P h hd
  lk := fun j a s' o' h1 h2 h3 => by
    by_cases hj : k = j
    · subst hj
      have hl : k < S.length := by rw [← c.len]; exact (List.getElem?_eq_some_iff.mp hk).1
      rw [List.getElem?_set_self hl] at h2
      cases h2
      rw [hk] at h1
      cases h1
      rw [upd_same] at h3
      cases h3
      exact l
    · rw [List.getElem?_set_ne hj] at h2
      have ne : a ≠ p := by
        rintro rfl
        have hkl := (List.getElem?_eq_some_iff.mp hk).1
        exact hj ((List.getElem_inj (h₀ := hkl) (h₁ := (List.getElem?_eq_some_iff.mp h1).1) c.nd).mp (by rw [(List.getElem?_eq_some_iff.mp hk).2, (List.getElem?_eq_some_iff.mp h1).2]))
      rw [upd_ne ne] at h3
      exact c.lk j a s' o' h1 h2 h3
theorem Evo.setc {p : Addr} {o o1 : HO} (hk : p ∈ as) (h1 : H p = some o1) (ht : ∀ xs, o1 ≠ .tup xs) (hc : ∀ a q, o1 ≠ LamX.CodeO a q := by (intro _ _ z; unfold LamX.CodeO at z; cases z)) (hn : ∀ ps, o ≠ .tbl ps := by exact fun _ z => nomatch z) : Evo B H as B (upd H p o) :=
  ⟨Evl.Ex.refl B, fun a u n q _ => by rw [upd_ne (by rintro rfl; exact n hk)]; exact q, fun _ _ _ _ => .inl rfl, fun a xs fo q => by rw [upd_ne (by rintro rfl; rw [h1] at q; cases q; exact fo.elim (fun ⟨ys, z⟩ => ht ys z) fun ⟨b, r, z⟩ => hc b r z)]; exact q, fun a u q nt => by
    by_cases h : a = p
    · subst h; exact ⟨o, upd_same, hn⟩
    · exact ⟨u, by rw [upd_ne h]; exact q, nt⟩⟩
/-- xs.append(e) -/
theorem ev_append (ho : Ev K to env S (.c k) S1) (h : Ev K te env S1 (.d d) S2) (h1 : ∃ es, S1[k]? = some (.lst es)) (hs : S2[k]? = some (.lst ds)) (hl : ds.length < sizeLine) : Ev K (tBM K "list" rAppend to (tCons te tNil)) env S (.d .non) (S2.set k (.lst (ds ++ [d]))) := fun B H as σ c g Q q =>
  ho B H as σ c g _ fun v B1 H1 c1 e1 r1 => by
    obtain ⟨p, hp, rfl⟩ := r1
    obtain ⟨es, hes⟩ := h1
    obtain ⟨ws, hw, rw'⟩ := (c1.cells k p _ hp hes).2.lst
    refine ⟨.inl ⟨rfl, ws, Evl.sq_of hw⟩, h B1 H1 as σ c1 (g.mono e1.ex) _ fun v B2 H2 c2 e2 r2 => ?_⟩
    obtain ⟨vs, hv, rv⟩ := (c2.cells k p _ hp hs).2.lst
    refine ⟨p, vs, v, rfl, rfl, hv, by rw [rv.length]; exact hl, q .non B2 _ (c2.setc hp (show CellO K B2 (.lst _) (.lst _) from rv.append (.cons r2 .nil))) ((e1.trans e2).trans (Evo.setc (List.mem_of_getElem? hp) hv (fun _ z => nomatch z))) .non⟩
/-- xs.extend(ys) -/
theorem ev_extend (ho : Ev K to env S (.c k) S1) (h : Ev K te env S1 (.d (.lst es)) S2) (h1 : ∃ es, S1[k]? = some (.lst es)) (hs : S2[k]? = some (.lst ds)) (hl : ds.length + es.length ≤ sizeLine) : Ev K (tBM K "list" rExtend to (tCons te tNil)) env S (.d .non) (S2.set k (.lst (ds ++ es))) := fun B H as σ c g Q q =>
  ho B H as σ c g _ fun v B1 H1 c1 e1 r1 => by
    obtain ⟨p, hp, rfl⟩ := r1
    obtain ⟨es', hes⟩ := h1
    obtain ⟨ws, hw, rw'⟩ := (c1.cells k p _ hp hes).2.lst
    refine ⟨.inl ⟨rfl, ws, Evl.sq_of hw⟩, h B1 H1 as σ c1 (g.mono e1.ex) _ fun v B2 H2 c2 e2 r2 => ?_⟩
    obtain ⟨vs, hv, rv⟩ := (c2.cells k p _ hp hs).2.lst
    cases r2 with
    | lst h3 r3 =>
      refine ⟨p, _, vs, _, rfl, rfl, hv, c2.ex _ _ h3, by rw [rv.length, r3.length]; exact hl, q .non B2 _ (c2.setc hp (show CellO K B2 (.lst _) (.lst _) from rv.append r3)) ((e1.trans e2).trans (Evo.setc (List.mem_of_getElem? hp) hv (fun _ z => nomatch z))) .non⟩
/-- xs[i] = e -/
theorem sp_setitem {j : Nat} {iv : Int} (h : Ev K te env S (.d d) S1) (ho : Ev K to env S1 (.c k) S2) (hi : Ev K ti env S2 (.d (.int iv)) S3) (hs : S3[k]? = some (.lst ds)) (hj : ixN ds.length iv = some j) (q : SP K n u env (S3.set k (.lst (ds.set j d))) P) :
    SP K n (tSeq (tAsg te (gSub to ti rSetL)) u) env S P := fun B0 H0 as0 Bk B H as σ hl f c g D m =>
  h B H as σ c g _ fun v B1 H1 c1 e1 r1 => ho B1 H1 as σ c1 (g.mono e1.ex) _ fun w B2 H2 c2 e2 r2 => hi B2 H2 as σ c2 (g.mono (e1.trans e2).ex) _ fun w3 B3 H3 c3 e3 r3 => by
    obtain ⟨p, hp, rfl⟩ := r2
    cases r3
    obtain ⟨vs, hv, rv⟩ := (c3.cells k p _ hp hs).2.lst
    have e03 := ((e1.trans e2).trans e3).trans (Evo.setc (o := .lst (vs.set j v)) (List.mem_of_getElem? hp) hv (fun _ z => nomatch z))
    exact ⟨p, vs, iv, j, rfl, rfl, hv, by rw [rv.length]; exact hj, q B0 H0 as0 Bk B3 _ as σ hl (f.step e03) (c3.setc hp (show CellO K B3 (.lst _) (.lst _) from Reps.set j (Rep.mono (e2.trans e3).ex r1) rv)) (g.mono e03.ex) D m⟩
/-- x op= e -/
theorem sp_aug {fn : Int → Int → Int} {p q : Int} (hx : env[i]? = some (some (.d (.int p)))) (h : Ev K te env S (.d (.int q)) S1) (k : SP K n u (env.set i (some (.d (.int (fn p q))))) S1 P) : SP K n (tSeq (tAug i te (ipI fn)) u) env S P := fun B0 H0 as0 Bk B H as σ hl f c g D m => by
  obtain ⟨v, h1, h2⟩ := g.2 i _ hx
  cases h2
  exact ⟨_, h1, h B H as σ c g _ fun w B1 H1 c1 e1 r1 => by
    cases r1
    exact ⟨p, q, rfl, rfl, k B0 H0 as0 Bk B1 H1 as _ hl (f.step e1) c1 (EnvR.set (s := .d (.int (fn p q))) i (g.mono e1.ex) (.int _)) D m⟩⟩
theorem sp_aug1 {fn : Int → Int → Int} {p q : Int} (hx : env[i]? = some (some (.d (.int p)))) (h : Ev K te env S (.d (.int q)) S1) (k : P.nx (env.set i (some (.d (.int (fn p q))))) S1) : SP K n (tAug i te (ipI fn)) env S P := fun B0 H0 as0 Bk B H as σ hl f c g D m => by
  obtain ⟨v, h1, h2⟩ := g.2 i _ hx
  cases h2
  exact ⟨_, h1, h B H as σ c g _ fun w B1 H1 c1 e1 r1 => by
    cases r1
    exact ⟨p, q, rfl, rfl, m.nx _ S1 B1 H1 as _ (f.step e1) c1 (EnvR.set (s := .d (.int (fn p q))) i (g.mono e1.ex) (.int _)) k⟩⟩
/-- a, b = e1, e2 -/
theorem sp_par {i j : Nat} (h : EvA K tA env S [x, y] S1) (k : SP K n u ((env.set i (some x)).set j (some y)) S1 P) : SP K n (tSeq (tPar i j tA) u) env S P := fun B0 H0 as0 Bk B H as σ hl f c g D m =>
  h B H as σ c g _ fun vs B1 H1 c1 e1 r1 => by
    cases r1 with
    | cons r1 rr =>
      cases rr with
      | cons r2 rr =>
        cases rr
        exact ⟨_, _, rfl, k B0 H0 as0 Bk B1 H1 as _ hl (f.step e1) c1 (((g.mono e1.ex).set i r1).set j r2) D m⟩
/-! ### instances -/
def putFD (f : Str) (v : Dat) : List (Str × Dat) → List (Str × Dat)
  | [] => [(f, v)]
  | (g, x) :: r => if g = f then (g, v) :: r else (g, x) :: putFD f v r
theorem RepF.put {f : Str} {v : V} : ∀ {vs : List (Str × V)} {fs : List (Str × Dat)}, Rep K B v d → RepF K B vs fs → RepF K B (putF f v vs) (putFD f d fs)
  | _, _, h, .nil => .cons h .nil
  | _, _, h, .cons (f := g) h1 r => by
    unfold putF putFD
    split
    · exact .cons h r
    · exact .cons h1 (RepF.put h r)
  | _, _, h, .cel (f := g) r => by
    unfold putF putFD
    split
    · exact .cons h r
    · exact .cel (RepF.put h r)
theorem RepF.length : ∀ {vs : List (Str × V)} {fs : List (Str × Dat)}, RepF K B vs fs → vs.length = fs.length
  | _, _, .nil => rfl
  | _, _, .cons _ r => by rw [List.length_cons, List.length_cons, RepF.length r]
  | _, _, .cel r => by rw [List.length_cons, List.length_cons, RepF.length r]
theorem putFD_look {f f' : Str} {v : Dat} : ∀ {fs : List (Str × Dat)}, (putFD f v fs).lookup f' = if f' = f then some v else fs.lookup f'
  | [] => by
    unfold putFD
    by_cases h : f' = f
    · subst h; rw [if_pos rfl]; simp [List.lookup]
    · have q : (f' == f) = false := by simpa using h
      rw [if_neg h]; simp only [List.lookup, q]
  | (g, x) :: r => by
    unfold putFD
    by_cases hg : g = f
    · subst hg
      rw [if_pos rfl]
      by_cases h : f' = g
      · subst h; rw [if_pos rfl]; simp [List.lookup]
      · have q : (f' == g) = false := by simpa using h
        rw [if_neg h]; simp only [List.lookup, q]
    · rw [if_neg hg]
      by_cases h : f' = g
      · subst h; rw [if_neg hg]; simp [List.lookup]
      · have q : (f' == g) = false := by simpa using h
        simp only [List.lookup, q]
        exact putFD_look
theorem putF_look {f f' : Str} {v : V} : ∀ {fs : List (Str × V)}, (putF f v fs).lookup f' = if f' = f then some v else fs.lookup f'
  | [] => by
    unfold putF
    by_cases h : f' = f
    · subst h; rw [if_pos rfl]; simp [List.lookup]
    · have q : (f' == f) = false := by simpa using h
      rw [if_neg h]; simp only [List.lookup, q]
  | (g, x) :: r => by
    unfold putF
    by_cases hg : g = f
    · subst hg
      rw [if_pos rfl]
      by_cases h : f' = g
      · subst h; rw [if_pos rfl]; simp [List.lookup]
      · have q : (f' == g) = false := by simpa using h
        rw [if_neg h]; simp only [List.lookup, q]
    · rw [if_neg hg]
      by_cases h : f' = g
      · subst h; rw [if_neg hg]; simp [List.lookup]
      · have q : (f' == g) = false := by simpa using h
        simp only [List.lookup, q]
        exact putF_look
theorem Ok.lkput {p C dx : Addr} {f : Str} {v : V} {vs : List (Str × V)} {fs : List (Str × Dat)} (c : Ok K B H as S) (hp : as[k]? = some p) (hs : S[k]? = some (.ins C fs)) (hv : H p = some (.ins C dx vs)) (r : Rep K B v d) : LkO as k (.ins C dx (putF f v vs)) (.ins C (putFD f d fs)) := fun C' fs' f' j e h1 h2 => by
  cases e
  rw [putFD_look] at h1
  by_cases h : f' = f
  · rw [if_pos h] at h1; cases h1; cases r
  · rw [if_neg h] at h1
    obtain ⟨b, dx', vs', q1, q2, q3⟩ := c.lk k p _ _ hp hs hv C fs f' j rfl h1 h2
    cases q2
    exact ⟨b, dx, _, q1, rfl, by rw [putF_look, if_neg h]; exact q3⟩
theorem ev_fld {C : Addr} {fs : List (Str × Dat)} {f : Str} (h : Ev K ta env S (.d (.ins C fs)) S1) (cl : Cls K C) (na : NoAttr K C f) (hf : fs.lookup f = some d) (hd : ∀ j, d ≠ .cel j := by exact fun _ z => nomatch z) : Ev K (tFld K ta f) env S (.d d) S1 := fun B H as σ c g Q q =>
  h B H as σ c g _ fun v B1 H1 c1 e1 r1 => by
    cases r1 with
    | ins h1 r1 =>
      obtain ⟨v, hv, rv⟩ := r1.get hf hd
      exact ⟨_, C, _, _, v, rfl, c1.ex _ _ h1, cl, na, hv, q v B1 H1 c1 e1 rv⟩
theorem ev_fldC {C : Addr} {fs : List (Str × Dat)} {f : Str} (h : Ev K ta env S (.c k) S1) (hs : S1[k]? = some (.ins C fs)) (cl : Cls K C) (na : NoAttr K C f) (hf : fs.lookup f = some d) (hd : ∀ j, d ≠ .cel j := by exact fun _ z => nomatch z) : Ev K (tFld K ta f) env S (.d d) S1 := fun B H as σ c g Q q =>
  h B H as σ c g _ fun v B1 H1 c1 e1 r1 => by
    obtain ⟨p, hp, rfl⟩ := r1
    obtain ⟨dx, vs, hv, rv⟩ := (c1.cells k p _ hp hs).2.ins
    obtain ⟨v, hv', rv'⟩ := rv.get hf hd
    exact ⟨p, C, dx, vs, v, rfl, hv, cl, na, hv', q v B1 H1 c1 e1 rv'⟩
/-- self.f = e -/
theorem sp_fld {C : Addr} {fs : List (Str × Dat)} {f : Str} (h : Ev K tv env S (.d d) S1) (ho : Ev K ta env S1 (.c k) S2) (hs : S2[k]? = some (.ins C fs)) (cl : Cls K C) (na : NoAttr K C f) (hl : fs.length < 1000) (q : SP K n u env (S2.set k (.ins C (putFD f d fs))) P) :
    SP K n (tSeq (sFld K ta tv f) u) env S P := fun B0 H0 as0 Bk B H as σ hl0 f0 c g D m =>
  h B H as σ c g _ fun v B1 H1 c1 e1 r1 => ho B1 H1 as σ c1 (g.mono e1.ex) _ fun w B2 H2 c2 e2 r2 => by
    obtain ⟨p, hp, rfl⟩ := r2
    obtain ⟨dx, vs, hv, rv⟩ := (c2.cells k p _ hp hs).2.ins
    have e03 := (e1.trans e2).trans (Evo.setc (o := .ins C dx (putF f v vs)) (List.mem_of_getElem? hp) hv (fun _ z => nomatch z))
    exact ⟨p, C, dx, vs, rfl, hv, cl, na, by rw [rv.length]; exact hl, q B0 H0 as0 Bk B2 _ as σ hl0 (f0.step e03) (c2.setc hp (show CellO K B2 (.ins C dx _) (.ins C _) from ⟨rfl, RepF.put (Rep.mono e2.ex r1) rv⟩) (c2.lkput hp hs hv (Rep.mono e2.ex r1))) (g.mono e03.ex) D m⟩
theorem sp_fld1 {C : Addr} {fs : List (Str × Dat)} {f : Str} (h : Ev K tv env S (.d d) S1) (ho : Ev K ta env S1 (.c k) S2) (hs : S2[k]? = some (.ins C fs)) (cl : Cls K C) (na : NoAttr K C f) (hl : fs.length < 1000) (q : P.nx env (S2.set k (.ins C (putFD f d fs)))) :
    SP K n (sFld K ta tv f) env S P := fun B0 H0 as0 Bk B H as σ hl0 f0 c g D m =>
  h B H as σ c g _ fun v B1 H1 c1 e1 r1 => ho B1 H1 as σ c1 (g.mono e1.ex) _ fun w B2 H2 c2 e2 r2 => by
    obtain ⟨p, hp, rfl⟩ := r2
    obtain ⟨dx, vs, hv, rv⟩ := (c2.cells k p _ hp hs).2.ins
    have e03 := (e1.trans e2).trans (Evo.setc (o := .ins C dx (putF f v vs)) (List.mem_of_getElem? hp) hv (fun _ z => nomatch z))
    exact ⟨p, C, dx, vs, rfl, hv, cl, na, by rw [rv.length]; exact hl, m.nx _ _ B2 _ as _ (f0.step e03) (c2.setc hp (show CellO K B2 (.ins C dx _) (.ins C _) from ⟨rfl, RepF.put (Rep.mono e2.ex r1) rv⟩) (c2.lkput hp hs hv (Rep.mono e2.ex r1))) (g.mono e03.ex) q⟩
/-- C(e, ..): a new instance, filled by its __init__ -/
theorem ev_make {C : Addr} {G : List Sl → List Dat → Dat → List Dat → Prop} {ss : List Sl} {E : XK} {fs : List (Str × Dat)} (h : EvA K tA env S ss S1) (hg : G (.c S1.length :: ss) (S1 ++ [.ins C []]) .non (S2 ++ [.ins C fs])) (hl : S2.length = S1.length) :
    Ev K (tMake C (SpD K G) [] E tA) env S (.d (.ins C fs)) S2 := fun B H as σ c g Q q =>
  h B H as σ c g _ fun vs B1 H1 c1 e1 r1 x dx hx hdx hne => by
    have hB := c1.Bnone hx
    have hxa := c1.fresh hx
    have hdB := c1.Bnone hdx
    have hda := c1.fresh hdx
    have c2 : Ok K B1 (upd (upd H1 dx (.own x)) x (.ins C dx [])) as S1 := (c1.other hdB hda).other hB hxa
    have e2 : Evo B1 H1 as B1 (upd (upd H1 dx (.own x)) x (.ins C dx [])) := (Evo.refl.other (.of hdx)).other (.of hx)
    have c3 : Ok K B1 (upd (upd H1 dx (.own x)) x (.ins C dx [])) (as ++ [x]) (S1 ++ [.ins C []]) := c2.push hB hxa (CellAt.ofI upd_same .nil) (fun _ _ _ _ _ _ e q _ => by cases e; cases q)
    have r3 : RepSs K B1 (as ++ [x]) (.ref x :: (vs ++ [])) (.c S1.length :: ss) := by
      refine .cons ⟨x, by rw [← c1.len]; simp, rfl⟩ ?_
      rw [List.append_nil]
      have grow : ∀ {vs : List V} {ss : List Sl}, RepSs K B1 as vs ss → RepSs K B1 (as ++ [x]) vs ss := by
        intro vs ss h
        induction h with
        | nil => exact .nil
        | cons h _ ih => exact .cons h.grow ih
      exact grow r1
    refine ⟨B1, as ++ [x], _, _, _, _, c3, r3, hg, fun v B4 H4 c4 e4 r4 => ⟨by cases r4; rfl, ?_⟩⟩
    have hk : (as ++ [x])[as.length]? = some x := by simp
    have hs : (S2 ++ [Dat.ins C fs])[as.length]? = some (.ins C fs) := by
      rw [c1.len, ← hl]; simp
    obtain ⟨hb4, hc4⟩ := c4.cells as.length x _ hk hs
    obtain ⟨dx', ws, hw, rw'⟩ := hc4.ins
    have c5 : Ok K B4 H4 as S2 := by
      have := c4.upto as.length
      rw [List.take_left, show as.length = S2.length by rw [c1.len, hl], List.take_left] at this
      exact this
    have nd := c4.nd
    have hx4 : x ∉ as := fun hm => (List.nodup_append.mp nd).2.2 x hm x (by simp) rfl
    have x0 : Nn H x := e1.old hx
    have e5 : Evo B H as B4 H4 := by
      have e12 := e1.trans e2
      refine ⟨e12.ex.trans e4.ex, fun a o hn q nt => e4.fr a o (fun hm => (List.mem_append.mp hm).elim hn fun z => ?_) (e12.fr a o hn q nt) nt, fun a o q nt => let ⟨o1, h1, n1⟩ := e12.pr a o q nt; (e4.gr a o1 h1 n1).elim (fun z => (e12.gr a o q nt).elim (fun z2 => .inl (z.trans z2)) fun ⟨o, fo, h⟩ => .inr ⟨o, fo, e4.tp a o fo h⟩) .inr, fun a o fo h => e4.tp a o fo (e12.tp a o fo h), fun a o q nt => let ⟨o1, h1, n1⟩ := e12.pr a o q nt; e4.pr a o1 h1 n1⟩
      rw [List.mem_singleton.mp z] at q
      exact x0.no q nt
    refine q (.ref x) (upd B4 x (.ins C dx' ws)) H4 (c5.know hw hb4 hx4) ⟨e5.ex.trans (Evl.Ex.new hb4), e5.fr, fun a o q nt => by rw [upd_ne (by rintro rfl; exact x0.no q nt)]; exact e5.gr a o q nt, e5.tp, e5.pr⟩ (.ins upd_same (RepF.mono (Evl.Ex.new hb4) rw'))
end
end RW

set_option Elab.async false
set_option linter.all false
set_option maxRecDepth 100000
set_option maxHeartbeats 4000000
namespace RW
open PySem PySem.Spec PyProof.Rows L2
open Evl (Ex)
section
variable {K : PySem.W.Frag} {n : Nat} {te ta tb tc to ti tv : TE} {tt tu : TT} {tA tR : TA} {env env' : Env1} {S S1 S2 S3 : List Dat} {x y z : Sl} {d e : Dat} {ds es : List Dat} {r r' : R2} {P P' : Post} {t u : TS}
  {B B0 B1 B' H H0 H1 H' : Hp} {as as0 as1 : List Addr} {D : Ends} {σ : L2.St} {i k : Nat} {a b c : Bool}
/-! ### enumerate, reversed(range) -/
def enumD (ds : List Dat) : List Dat := ds.mapIdx fun i d => Dat.tup [.int (i : Nat), d]
theorem enumD_len : (enumD ds).length = ds.length := by unfold enumD; rw [List.length_mapIdx]
theorem enumD_get {i : Nat} {d : Dat} (h : ds[i]? = some d) : (enumD ds)[i]? = some (.tup [.int (i : Nat), d]) := by
  unfold enumD
  rw [List.getElem?_mapIdx, h]
  rfl
theorem it_enum (h : EvA K tA env S [x] S1) (hx : Seq S1 x ds) : IterD K (iEnumG K tA) env S (fun as as2 S2 => GS x ds as as2 S2) (enumD ds) S1 := fun B H as σ c g R q => h B H as σ c g _ fun vs B1 H1 c1 e1 r1 => by
  cases r1 with
  | cons r1 rr =>
    cases rr
    obtain ⟨a1, k1, rfl, ⟨w1, q1⟩, st1⟩ := seq_stays c1 hx r1
    refine ⟨a1, k1, w1, rfl, q1, q _ B1 H1 c1 e1 ⟨fun B2 H2 as2 S2 i e c2 g2 hi => ?_, fun B2 H2 as2 S2 i x H3 e c2 g2 hi y => ?_, fun B2 H2 as2 S2 e c2 g2 => ?_⟩⟩
    · obtain ⟨u1, p1, rp1⟩ := st1 B2 H2 as2 S2 e c2 g2
      rw [enumD_len] at hi
      obtain ⟨v1, hv1, _⟩ := rp1.get (List.getElem?_eq_getElem hi)
      exact ⟨u1, v1, p1, hv1⟩
    · obtain ⟨u1, p1, rp1⟩ := st1 B2 H2 as2 S2 e c2 g2
      obtain ⟨T, v1, rfl, hT, rfl, y1⟩ := y
      obtain ⟨d1, hd1, r1⟩ := rp1.get' (y1 u1 p1)
      have hB : Ex B2 (upd B2 T (.tup [.int (i : Nat), v1])) := Evl.Ex.new (c2.Bnone hT)
      exact ⟨upd B2 T (.tup [.int (i : Nat), v1]), .tup [.int (i : Nat), d1], c2.new hT, Evo.new c2 hT, enumD_get hd1, .tup (Evl.st_of upd_same) (.cons (.int _) (.cons (r1.mono hB) .nil))⟩
    · obtain ⟨u1, p1, rp1⟩ := st1 B2 H2 as2 S2 e c2 g2
      exact ⟨u1, p1, by rw [enumD_len, rp1.length]⟩
/-- hi - 1, .., lo -/
def rngR (lo : Int) (n : Nat) : List Dat := (List.range n).map fun i => Dat.int (lo + (n : Int) - 1 + (i : Nat) * (-1))
theorem rngR_len {lo : Int} {n : Nat} : (rngR lo n).length = n := by unfold rngR; rw [List.length_map, List.length_range]
theorem rngR_get {lo : Int} {n i : Nat} (h : i < n) : (rngR lo n)[i]? = some (.int (lo + (n : Int) - 1 + (i : Nat) * (-1))) := by
  unfold rngR
  rw [List.getElem?_map, List.getElem?_range h]
  rfl
theorem walk_rngR {lo : Int} {n : Nat} {G : List Addr → List Dat → Prop} : WalkD K B (Itc (lo + (n : Int) - 1) (-1) n) G (rngR lo n) where
  go := fun B2 H2 as2 S2 i _ _ _ hi => by rw [rngR_len] at hi; exact hi
  yld := fun B2 H2 as2 S2 i x H3 _ c _ hi y => by
    rw [rngR_len] at hi
    obtain ⟨rfl, rfl⟩ := y
    exact ⟨B2, _, c, Evo.refl, rngR_get hi, .int _⟩
  stop := fun B2 H2 as2 S2 _ _ _ => by rw [rngR_len]; exact Nat.le_refl _
theorem it_rev1 {j : Int} (h : Ev K ta env S (.d (.int j)) S1) (hj : -(2 ^ 62) ≤ j ∧ j < 2 ^ 62) : IterD K (iRevR (tRg1 ta)) env S G0 (rngR 0 j.toNat) S1 := fun B H as σ c g R q => h B H as σ c g _ fun v B1 H1 c1 e1 r1 => by
  cases r1
  refine ⟨j, rfl, by decide, by decide, hj.1, hj.2, ?_⟩
  have e0 : (j - 0).toNat = j.toNat := by rw [Int.sub_zero]
  rw [e0]
  exact q _ B1 H1 c1 e1 walk_rngR
/-! ### == of data -/
mutual
def py : Dat → PyData
  | .non => .none
  | .bl b => .bool b
  | .int i => .int i
  | .str s => .str s
  | .tup xs => .tuple (pyAll xs)
  | .lst xs => .list (pyAll xs)
  | .ty _ => .none
  | .scr _ => .none
  | .ins _ _ => .none
  | .adr _ => .none
  | .dic _ => .none
  | .cel _ => .none
  | .tab _ _ => .none
  | .dd => .none
  | .lsa _ _ => .none
  | .dkd _ => .none
  | .dtd _ => .none
def pyAll : List Dat → List PyData
  | [] => []
  | x :: xs => py x :: pyAll xs
end
inductive Pl : Nat → Dat → Prop
  | non {m : Nat} : Pl m .non
  | bl {m : Nat} (b : Bool) : Pl m (.bl b)
  | int {m : Nat} (i : Int) : Pl m (.int i)
  | str {m : Nat} {s : Str} (h : (PyData.str s).canLay0 = true) : Pl m (.str s)
  | tup {m : Nat} {ds : List Dat} (h : ∀ d ∈ ds, Pl m d) : Pl (m + 1) (.tup ds)
  | lst {m : Nat} {ds : List Dat} (h : ∀ d ∈ ds, Pl m d) : Pl (m + 1) (.lst ds)
theorem pyAll_lay {m : Nat} : ∀ {ds : List Dat}, (∀ d ∈ ds, (py d).canLay0 = true ∧ (py d).depth ≤ m) → PyData.canLayAll0 (pyAll ds) = true ∧ PyData.depthAll (pyAll ds) ≤ m
  | [], _ => ⟨rfl, Nat.zero_le _⟩
  | d :: ds, h => by
    obtain ⟨h1, h2⟩ := pyAll_lay (ds := ds) fun d hd => h d (List.mem_cons_of_mem _ hd)
    obtain ⟨h3, h4⟩ := h d List.mem_cons_self
    refine ⟨?_, ?_⟩
    · show (PyData.canLay0 (py d) && PyData.canLayAll0 (pyAll ds)) = true
      rw [h1, h3]; rfl
    · show max (PyData.depth (py d)) (PyData.depthAll (pyAll ds)) ≤ m
      omega
theorem Pl.lay {m : Nat} (h : Pl m d) : (py d).canLay0 = true ∧ (py d).depth ≤ m := by
  induction h with
  | non => exact ⟨rfl, Nat.zero_le _⟩
  | bl b => exact ⟨rfl, Nat.zero_le _⟩
  | int i => exact ⟨rfl, Nat.zero_le _⟩
  | str h => exact ⟨h, Nat.zero_le _⟩
  | tup h ih =>
    obtain ⟨h1, h2⟩ := pyAll_lay ih
    exact ⟨h1, Nat.succ_le_succ h2⟩
  | lst h ih =>
    obtain ⟨h1, h2⟩ := pyAll_lay ih
    exact ⟨h1, Nat.succ_le_succ h2⟩
theorem Pl.shaped {m : Nat} (h : Pl m d) (hm : m ≤ 64) : SeqAt.shaped (py d) = true := by
  unfold SeqAt.shaped
  rw [h.lay.1, decide_eq_true (Nat.le_trans h.lay.2 hm)]
  rfl
theorem dpAll_of {m : Nat} : ∀ {vs : List V} {ds : List Dat}, (∀ d ∈ ds, ∀ v, Rep K H v d → Dp K H v (py d)) → Reps K H vs ds → DpAll K H vs (pyAll ds)
  | _, [], _, .nil => .nil
  | _, d :: ds, h, .cons r rr => .cons (h d List.mem_cons_self _ r) (dpAll_of (m := m) (fun d hd => h d (List.mem_cons_of_mem _ hd)) rr)
theorem Pl.dp {m : Nat} (h : Pl m d) : ∀ v, Rep K H v d → Dp K H v (py d) := by
  induction h with
  | non => intro v r; cases r; exact .non
  | bl b => intro v r; cases r; exact .bl b
  | int i => intro v r; cases r; exact .int i
  | str h => intro v r; cases r; exact .str _
  | tup h ih =>
    intro v r
    cases r with
    | tup h1 r1 => exact .tup h1 (dpAll_of (m := 0) ih r1)
  | lst h ih =>
    intro v r
    cases r with
    | lst h1 r1 => exact .lst (Evl.sq_of h1) (dpAll_of (m := 0) ih r1)
/-- what an operand is, as data -/
def PlS (S : List Dat) (x : Sl) (m : Nat) (d : Dat) : Prop := Pl m d ∧ (x = .d d ∨ ∃ k ds, x = .c k ∧ d = .lst ds ∧ S[k]? = some (.lst ds))
theorem plS_d {m : Nat} (h : Pl m d) : PlS S (.d d) m d := ⟨h, .inl rfl⟩
theorem plS_c {m k : Nat} (h : Pl m (.lst ds)) (hk : S[k]? = some (.lst ds)) : PlS S (.c k) m (.lst ds) := ⟨h, .inr ⟨k, ds, rfl, rfl, hk⟩⟩
theorem PlS.dp {m : Nat} {v : V} (h : PlS S x m d) (c : Ok K B H as S) (r : RepS K B as v x) : Dp K H v (py d) := by
  obtain ⟨hp, rfl | ⟨k, ds, rfl, rfl, hk⟩⟩ := h
  · exact hp.dp v (Rep.mono c.ex r)
  · obtain ⟨a, ha, rfl⟩ := r
    obtain ⟨vs, hv, rv⟩ := (c.cells k a _ ha hk).2.lst
    have rv' : Reps K H vs ds := Reps.mono c.ex rv
    exact hp.dp (.ref a) (.lst hv rv')
def eqD (d e : Dat) : Bool := PyData.eqv (py d) (py e)
theorem op2_eqD {m1 m2 : Nat} (h1 : PlS S x m1 d) (h2 : PlS S y m2 e) (hm1 : m1 ≤ 64) (hm2 : m2 ≤ 64) : Op2 K (rEqD K) x y S (.bl (eqD d e)) := fun B H as v w c r1 r2 Q q =>
  ⟨py d, py e, h1.dp c r1, h2.dp c r2, h1.1.shaped hm1, h2.1.shaped hm2, q _ B H c Evo.refl (.bl _)⟩
theorem op2_neD {m1 m2 : Nat} (h1 : PlS S x m1 d) (h2 : PlS S y m2 e) (hm1 : m1 ≤ 64) (hm2 : m2 ≤ 64) : Op2 K (rNeD K) x y S (.bl (!eqD d e)) := fun B H as v w c r1 r2 Q q =>
  ⟨py d, py e, h1.dp c r1, h2.dp c r2, h1.1.shaped hm1, h2.1.shaped hm2, q _ B H c Evo.refl (.bl _)⟩
theorem eqD_refl {m : Nat} (h : Pl m d) : eqD d d = true := SeqAt.eqv_refl _ h.lay.1
theorem eqD_int {i j : Int} : eqD (.int i) (.int j) = decide (i = j) := by
  show (i == j) = _
  by_cases h : i = j
  · subst h; simp
  · simp [h]
theorem eqvAll_map {α : Type} [DecidableEq α] (f : α → Dat) (h : ∀ x y, eqD (f x) (f y) = decide (x = y)) : ∀ xs ys : List α, PyData.eqvAll (pyAll (xs.map f)) (pyAll (ys.map f)) = decide (xs = ys)
  | [], [] => by simp [pyAll, PyData.eqvAll]
  | [], y :: ys => by simp [pyAll, PyData.eqvAll]
  | x :: xs, [] => by simp [pyAll, PyData.eqvAll]
  | x :: xs, y :: ys => by
    show (PyData.eqv (py (f x)) (py (f y)) && PyData.eqvAll (pyAll (xs.map f)) (pyAll (ys.map f))) = _
    rw [eqvAll_map f h xs ys]
    have := h x y
    unfold eqD at this
    rw [this]
    by_cases h1 : x = y <;> by_cases h2 : xs = ys <;> simp [h1, h2]
theorem eqD_tup {α : Type} [DecidableEq α] (f : α → Dat) (h : ∀ x y, eqD (f x) (f y) = decide (x = y)) (xs ys : List α) : eqD (.tup (xs.map f)) (.tup (ys.map f)) = decide (xs = ys) := eqvAll_map f h xs ys
theorem eqD_lst {α : Type} [DecidableEq α] (f : α → Dat) (h : ∀ x y, eqD (f x) (f y) = decide (x = y)) (xs ys : List α) : eqD (.lst (xs.map f)) (.lst (ys.map f)) = decide (xs = ys) := eqvAll_map f h xs ys
theorem op2_eq_int {i j : Int} : Op2 K rEq (.d (.int i)) (.d (.int j)) S (.bl (decide (i = j))) := fun B H as v w c h1 h2 Q q => by
  cases h1; cases h2
  have e : decide (V.int i = V.int j) = decide (i = j) := by
    by_cases h : i = j
    · subst h; simp
    · simp [h]
  refine ⟨rfl, ?_⟩
  rw [e]
  exact q _ B H c Evo.refl (.bl _)
theorem op2_ne_int {i j : Int} : Op2 K rNe (.d (.int i)) (.d (.int j)) S (.bl (!decide (i = j))) := fun B H as v w c h1 h2 Q q => by
  cases h1; cases h2
  have e : decide (V.int i = V.int j) = decide (i = j) := by
    by_cases h : i = j
    · subst h; simp
    · simp [h]
  refine ⟨rfl, ?_⟩
  rw [e]
  exact q _ B H c Evo.refl (.bl _)
/-! ### isinstance -/
def tyD : Dat → Option String
  | .non => some "NoneType"
  | .bl _ => some "bool"
  | .int _ => some "int"
  | .str _ => some "str"
  | .tup _ => some "tuple"
  | .lst _ => some "list"
  | .dd => some "dict"
  | _ => none
theorem tyX_of {T : String} {v : V} (c : Ok K B H as S) (h : tyD d = some T) (r : Rep K B v d) : TyX K H v (.type T) := by
  cases r with
  | non => cases h; exact .base .non
  | bl b => cases h; exact .base (.bl b)
  | int i => cases h; exact .base (.int i)
  | str s => cases h; exact .base (.str s)
  | ty n => cases h
  | tup h1 r1 =>
    cases h
    rcases Evl.ex_t c.ex h1 with (z | ⟨o, z⟩) | ⟨o, its, n, z, zc, _⟩
    · exact .base (.tup z)
    · exact .fTuple z
    · exact .kTuple z zc
  | lst h1 r1 => cases h; exact .base (.lst (c.ex _ _ h1))
  | scr h1 => cases h
  | ins h1 r1 => cases h
  | adr a => cases h
  | dd h1 => cases h; exact .base (.dT (c.ex _ _ h1))
theorem cd_isi {T N : String} (h : tyD d = some T) (hk : kitB T N = some b) : CallD K (rIsi K) [.d d, .d (.ty N)] S (.bl b) S := fun B H as vs c r Q q => by
  cases r with
  | cons r1 rr =>
    cases rr with
    | cons r2 rr =>
      cases rr; cases r2
      exact ⟨_, _, .type T, .type N, b, rfl, .ty N, tyX_of c h r1, kit_ty hk, q _ B H c Evo.refl (.bl b)⟩
/-- what an own class is for isinstance -/
structure InsC (K : PySem.W.Frag) (C : Addr) : Prop where
  cl : Cls K C
  ha : PySem.W.findIn K (.ref C) "__class__" = some (some (.builtin "object.__class__"))
  hn : PySem.W.specialIn K (.builtin "object.__class__") "__get__" = some (some (.builtin "getset_descriptor.__get__"))
  htk : PySem.W.takesIn K (.builtin "object.__class__") = some true
  hm : PySem.W.mroIn K C (.type "object") = some true
theorem cd_isiI {C : Addr} {fs : List (Str × Dat)} {cv : V} {cu : Value} {cd : Dat} (T : InsC K C) (hc : ∀ B v, Rep K B v cd → v = cv) (hcv : ClsV cv cu) (hk : PySem.W.kitOne K (.ref C) cu = some b) : CallD K (rIsi K) [.d (.ins C fs), .d cd] S (.bl b) S := fun B H as vs c r Q q => by
  cases r with
  | cons r1 rr =>
    cases rr with
    | cons r2 rr =>
      cases rr
      have e := hc _ _ r2
      subst e
      cases r1 with
      | ins h1 r1 => exact ⟨_, _, .ref C, cu, b, rfl, hcv, .base (.ins (c.ex _ _ h1) T.cl T.ha T.hn T.htk T.hm), hk, q _ B H c Evo.refl (.bl b)⟩
/-- an instance, asked for its own class -/
theorem cd_isiO {C C' : Addr} {fs : List (Str × Dat)} (T : InsC K C) (hk : PySem.W.kitOne K (.ref C) (.ref C') = some b) : CallD K (rIsi K) [.d (.ins C fs), .d (.adr C')] S (.bl b) S :=
  cd_isiI T (fun B v r => by cases r; rfl) (.own C') hk
/-- another value, asked for an own class -/
theorem cd_isiN {T : String} {C : Addr} (h : tyD d = some T) (hk : PySem.W.kitOne K (.type T) (.ref C) = some b) : CallD K (rIsi K) [.d d, .d (.adr C)] S (.bl b) S := fun B H as vs c r Q q => by
  cases r with
  | cons r1 rr =>
    cases rr with
    | cons r2 rr =>
      cases rr; cases r2
      exact ⟨_, _, .type T, .ref C, b, rfl, .own C, tyX_of c h r1, hk, q _ B H c Evo.refl (.bl b)⟩
end
end RW

set_option Elab.async false
set_option linter.all false
set_option maxRecDepth 100000
set_option maxHeartbeats 4000000
namespace RW
open PySem PySem.Spec PyProof.Rows L2
open Evl (Ex)
section
variable {K : PySem.W.Frag} {n : Nat} {te ta tb tc to ti tv : TE} {tt tu : TT} {tA tR : TA} {env env' : Env1} {S S1 S2 S3 : List Dat} {x y z : Sl} {d e : Dat} {ds es : List Dat} {r r' : R2} {P P' : Post} {t u : TS}
  {B B0 B1 B' H H0 H1 H' : Hp} {as as0 as1 : List Addr} {D : Ends} {σ : L2.St} {i j : Int} {k : Nat} {a b c : Bool}
theorem o_le : Op2 K (rI0 fun i j => V.bl (decide (i ≤ j))) (.d (.int i)) (.d (.int j)) S (.bl (decide (i ≤ j))) := op2_int0 fun B => .bl _
theorem o_lt : Op2 K (rI0 fun i j => V.bl (decide (i < j))) (.d (.int i)) (.d (.int j)) S (.bl (decide (i < j))) := op2_int0 fun B => .bl _
theorem o_gt : Op2 K (rI0 fun i j => V.bl (decide (j < i))) (.d (.int i)) (.d (.int j)) S (.bl (decide (j < i))) := op2_int0 fun B => .bl _
theorem o_ge : Op2 K (rI0 fun i j => V.bl (decide (j ≤ i))) (.d (.int i)) (.d (.int j)) S (.bl (decide (j ≤ i))) := op2_int0 fun B => .bl _
theorem o_leT (h : i ≤ j) : Op2 K (rI0 fun i j => V.bl (decide (i ≤ j))) (.d (.int i)) (.d (.int j)) S (.bl true) := by have := @o_le K S i j; rwa [decide_eq_true h] at this
theorem o_ltT (h : i < j) : Op2 K (rI0 fun i j => V.bl (decide (i < j))) (.d (.int i)) (.d (.int j)) S (.bl true) := by have := @o_lt K S i j; rwa [decide_eq_true h] at this
theorem o_add : Op2 K (rI0 fun i j => V.int (i + j)) (.d (.int i)) (.d (.int j)) S (.int (i + j)) := op2_int0 fun B => .int _
theorem o_sub : Op2 K (rI0 fun i j => V.int (i - j)) (.d (.int i)) (.d (.int j)) S (.int (i - j)) := op2_int0 fun B => .int _
theorem o_mul (h : CMul i j) : Op2 K (rI CMul fun i j => V.int (i * j)) (.d (.int i)) (.d (.int j)) S (.int (i * j)) := op2_int h fun B => .int _
theorem o_mod (h : 0 < j) : Op2 K (rI (fun x j => 0 < j) fun i j => V.int (i % j)) (.d (.int i)) (.d (.int j)) S (.int (i % j)) := op2_int h fun B => .int _
theorem o_fdivW (h : CDivW i j) : Op2 K (rI CDivW fun i j => V.int (i / j)) (.d (.int i)) (.d (.int j)) S (.int (i / j)) := op2_int h fun B => .int _
theorem o_pow (h : CPow i j) : Op2 K (rI CPow fun i j => V.int (i ^ j.toNat)) (.d (.int i)) (.d (.int j)) S (.int (i ^ j.toNat)) := op2_int h fun B => .int _
theorem o_neg : Op1 K (rU fun i => V.int (-i)) (.d (.int i)) S (.int (-i)) := op1_int fun B => .int _
theorem cm_l (h1 : -(2 ^ 64) < i) (h2 : i < 2 ^ 64) : CMul i j := .inl ⟨h1, h2⟩
theorem cm_r (h1 : -(2 ^ 64) < j) (h2 : j < 2 ^ 64) : CMul i j := .inr ⟨h1, h2⟩
/-- ** of any base -/
def CPowW (i j : Int) : Prop := 0 ≤ j ∧ (Builtin.Int.intBits i : Int) * j ≤ 2 ^ 27
theorem op_powW {X : Cx} : OpR X (binaryOp .Pow) (rI CPowW fun i j => .int (i ^ j.toNat)) := opI fun i j t u A E s hc q => pow_int hc.1 hc.2 q
theorem o_powW (h : CPowW i j) : Op2 K (rI CPowW fun i j => V.int (i ^ j.toNat)) (.d (.int i)) (.d (.int j)) S (.int (i ^ j.toNat)) := op2_int h fun B => .int _
theorem en_mapA {α : Type} {xs : List α} {g : α → Dat} (h : α → Dat) {wi : TI} {tg : TG} {vs : List Nat} {G : List Addr → List Addr → List Dat → Prop} {is : List Nat} (hw : IterD K wi env S G (xs.map g) S1) (hz : xs.length ≤ sizeLine)
    (hG : ∀ as : List Addr, as.length = S1.length → G as as S1) (his : ∀ i ∈ is, i ∈ vs) (f : α → Env1 → Env1)
    (hs : ∀ (a : α), a ∈ xs → TgD K tg (g a) is (f a) ∧ Ev K te (f a (wipeE env vs)) S1 (.d (h a)) S1) : EvN K (tLc wi tg tYes te vs) env S (xs.map h) S1 := by
  refine en_lc (es := xs.map h) (S' := S1) hw (by rw [List.length_map]; exact hz) (fun i acc S' => acc = (xs.take i).map h ∧ S' = S1) ⟨by simp, rfl⟩ (fun i acc S' h as l1 l2 => by rw [h.2]; exact hG as l1) (fun i d acc S' hd hi => ?_) (fun acc S2 h => ?_)
  · obtain ⟨rfl, rfl⟩ := hi
    rw [List.getElem?_map, Option.map_eq_some_iff] at hd
    obtain ⟨a, ha, rfl⟩ := hd
    obtain ⟨tg, hev⟩ := hs a (List.mem_of_getElem? ha)
    exact ⟨is, f a, true, S', tg, his, et_yes, fun _ => ⟨_, _, hev, (map_take h ha).symm, rfl⟩, fun h => by cases h⟩
  · obtain ⟨rfl, rfl⟩ := h
    exact ⟨by rw [List.length_map, List.take_length], rfl⟩
theorem filter_take {α : Type} (T : α → Bool) {l : List α} {i : Nat} {x : α} (h : l[i]? = some x) : (l.take (i + 1)).filter T = (l.take i).filter T ++ (if T x = true then [x] else []) := by
  have hl := (List.getElem?_eq_some_iff.mp h).1
  have e : l[i] = x := (List.getElem?_eq_some_iff.mp h).2
  rw [List.take_succ_eq_append_getElem hl, e, List.filter_append]
  congr 1
  by_cases q : T x = true <;> simp [q]
theorem en_filterA {α : Type} {xs : List α} {g : α → Dat} (T : α → Bool) (h : α → Dat) {wi : TI} {tg : TG} {vs : List Nat} {G : List Addr → List Addr → List Dat → Prop} {is : List Nat} (hw : IterD K wi env S G (xs.map g) S1) (hz : xs.length ≤ sizeLine)
    (hG : ∀ as : List Addr, as.length = S1.length → G as as S1) (his : ∀ i ∈ is, i ∈ vs) (f : α → Env1 → Env1)
    (hs : ∀ (a : α), a ∈ xs → TgD K tg (g a) is (f a) ∧ EvT K tt (f a (wipeE env vs)) S1 (T a) S1 ∧ (T a = true → Ev K te (f a (wipeE env vs)) S1 (.d (h a)) S1)) : EvN K (tLc wi tg tt te vs) env S ((xs.filter T).map h) S1 := by
  refine en_lc (es := (xs.filter T).map h) (S' := S1) hw (by rw [List.length_map]; exact hz) (fun i acc S' => acc = ((xs.take i).filter T).map h ∧ S' = S1) ⟨by simp, rfl⟩ (fun i acc S' h as l1 l2 => by rw [h.2]; exact hG as l1) (fun i d acc S' hd hi => ?_) (fun acc S2 h => ?_)
  · obtain ⟨rfl, rfl⟩ := hi
    rw [List.getElem?_map, Option.map_eq_some_iff] at hd
    obtain ⟨a, ha, rfl⟩ := hd
    obtain ⟨tg, htt, hev⟩ := hs a (List.mem_of_getElem? ha)
    refine ⟨is, f a, T a, S', tg, his, htt, fun q => ⟨_, _, hev q, ?_, rfl⟩, fun q => ⟨?_, rfl⟩⟩
    · rw [filter_take T ha, if_pos q, List.map_append]; rfl
    · rw [filter_take T ha, if_neg (by simp [q]), List.append_nil]
  · obtain ⟨rfl, rfl⟩ := h
    exact ⟨by rw [List.length_map, List.take_length], rfl⟩
/-- with a state that goes along: the vat -/
theorem en_fold {α β : Type} {xs : List α} {g : α → Dat} {es : List β} (h : β → Dat) (Sf : Nat → List Dat) {wi : TI} {tg : TG} {vs : List Nat} {G : List Addr → List Addr → List Dat → Prop} {is : List Nat} (hw : IterD K wi env S G (xs.map g) (Sf 0)) (hz : xs.length ≤ sizeLine) (hl : es.length = xs.length)
    (hG : ∀ i (as : List Addr), as.length = (Sf i).length → G as as (Sf i)) (hSl : ∀ i, (Sf i).length = (Sf 0).length) (his : ∀ i ∈ is, i ∈ vs) (f : α → Env1 → Env1)
    (hs : ∀ (i : Nat) (a : α) (b : β), xs[i]? = some a → es[i]? = some b → TgD K tg (g a) is (f a) ∧ Ev K te (f a (wipeE env vs)) (Sf i) (.d (h b)) (Sf (i + 1))) : EvN K (tLc wi tg tYes te vs) env S (es.map h) (Sf xs.length) := by
  refine en_lc (es := es.map h) (S' := Sf xs.length) hw (by rw [List.length_map]; exact hz) (fun i acc S' => acc = (es.take i).map h ∧ S' = Sf i) ⟨by simp, rfl⟩ (fun i acc S' h as l1 l2 => by rw [h.2] at l2 ⊢; exact hG i as l2) (fun i d acc S' hd hi => ?_) (fun acc S2 h => ?_)
  · obtain ⟨rfl, rfl⟩ := hi
    rw [List.getElem?_map, Option.map_eq_some_iff] at hd
    obtain ⟨a, ha, rfl⟩ := hd
    have hlt : i < es.length := by rw [hl]; exact (List.getElem?_eq_some_iff.mp ha).1
    obtain ⟨tg, hev⟩ := hs i a es[i] ha (List.getElem?_eq_getElem hlt)
    exact ⟨is, f a, true, _, tg, his, et_yes, fun _ => ⟨_, _, hev, (map_take h (List.getElem?_eq_getElem hlt)).symm, rfl⟩, fun h => by cases h⟩
  · obtain ⟨rfl, rfl⟩ := h
    refine ⟨?_, by rw [List.length_map]⟩
    rw [List.length_map, List.take_of_length_le (by omega)]
theorem sp_forA {α : Type} {xs : List α} {g : α → Dat} {wi : TI} {tg : TG} {tb : TS} {G : List Addr → List Addr → List Dat → Prop} (hw : IterD K wi env S G (xs.map g) S1) (Inv : Nat → Env1 → List Dat → Prop) (h0 : Inv 0 env S1)
    (hG : ∀ i env' S' as as2, Inv i env' S' → as.length = S1.length → as2.length = S'.length → as2.take n = as.take n → G as as2 S')
    (hs : ∀ i a env' S', xs[i]? = some a → Inv i env' S' → ∃ is f, TgD K tg (g a) is f ∧ SP K n tb (f env') S' { P with nx := Inv (i + 1), ct := Inv (i + 1), bk := P.nx })
    (hd : ∀ env' S', Inv xs.length env' S' → P.nx env' S') : SP K n (tFor wi tg tb) env S P := by
  refine sp_for hw Inv h0 hG (fun i d env' S' hd hi => ?_) (fun env' S' h => hd env' S' (by rwa [List.length_map] at h))
  rw [List.getElem?_map, Option.map_eq_some_iff] at hd
  obtain ⟨a, ha, rfl⟩ := hd
  exact hs i a env' S' ha hi
theorem rng_map {lo : Int} {n : Nat} : rng lo n = (List.range n).map fun i => Dat.int (lo + (i : Nat)) := rfl
theorem zip_map {α β : Type} (f : α → Dat) (g : β → Dat) (u : List α) (v : List β) : zipD (u.map f) (v.map g) = (u.zip v).map fun p => Dat.tup [f p.1, g p.2] := by
  unfold zipD
  rw [List.zipWith_map]
  induction u generalizing v with
  | nil => rfl
  | cons x u ih => cases v with
    | nil => rfl
    | cons y v => simp [ih]
theorem enum_map {α : Type} (f : α → Dat) (u : List α) : enumD (u.map f) = u.zipIdx.map fun p => Dat.tup [.int (p.2 : Nat), f p.1] := by
  unfold enumD
  apply List.ext_getElem
  · simp
  · intro i h1 h2; simp
theorem WalkD.weak {J : It} {G G' : List Addr → List Dat → Prop} (w : WalkD K B J G ds) (h : ∀ as2 S2, G' as2 S2 → G as2 S2) : WalkD K B J G' ds :=
  ⟨fun B2 H2 as2 S2 i e c g hi => w.go B2 H2 as2 S2 i e c (h _ _ g) hi, fun B2 H2 as2 S2 i x H3 e c g hi y => w.yld B2 H2 as2 S2 i x H3 e c (h _ _ g) hi y, fun B2 H2 as2 S2 e c g => w.stop B2 H2 as2 S2 e c (h _ _ g)⟩
theorem IterD.weak {wi : TI} {G G' : List Addr → List Addr → List Dat → Prop} (w : IterD K wi env S G ds S1) (h : ∀ as as2 S2, G' as as2 S2 → G as as2 S2) : IterD K wi env S G' ds S1 := fun B H as σ c g R q =>
  w B H as σ c g R fun J B1 H1 c1 e1 w1 => q J B1 H1 c1 e1 (w1.weak (h as))
theorem it_zipA {α β : Type} {u : List α} {v : List β} {f : α → Dat} {g : β → Dat} {x y : Dat} (h : EvA K tA env S [.d x, .d y] S1) (hx : Seq S1 (.d x) (u.map f)) (hy : Seq S1 (.d y) (v.map g)) : IterD K (iZipG K tA) env S G0 ((u.zip v).map fun p => Dat.tup [f p.1, g p.2]) S1 := by
  rw [← zip_map]; exact (it_zip h hx hy).weak fun _ _ _ _ => ⟨trivial, trivial⟩
theorem it_enumA {α : Type} {u : List α} {f : α → Dat} {x : Dat} (h : EvA K tA env S [.d x] S1) (hx : Seq S1 (.d x) (u.map f)) : IterD K (iEnumG K tA) env S G0 (u.zipIdx.map fun p => Dat.tup [.int (p.2 : Nat), f p.1]) S1 := by
  rw [← enum_map]; exact (it_enum h hx).weak fun _ _ _ _ => trivial
/-- return a new list that was just made -/
def SpN (K : PySem.W.Frag) (G : List Sl → List Dat → List Dat → List Dat → Prop) : Sp := fun vs H Q _ => ∃ B as S ss r S', Ok K B H as S ∧ RepSs K B as vs ss ∧ G ss S r S' ∧
  ∀ p B' H' ws, Ok K B' H' as S' → Evo B H as B' H' → Fresh H as p → B' p = none → H' p = some (.lst ws) → Reps K B' ws r → Q (.ref p) H'
theorem en_call {G : List Sl → List Dat → List Dat → List Dat → Prop} {ss : List Sl} {E : XK} (h : EvA K tA env S ss S1) (hg : G ss S1 ds S2) : EvN K (tCall (SpN K G) [] E tA) env S ds S2 := fun B H as σ c g Q q =>
  h B H as σ c g _ fun vs B1 H1 c1 e1 r1 => ⟨B1, as, S1, ss, ds, S2, c1, by rw [List.append_nil]; exact r1, hg, fun p B2 H2 ws c2 e2 hp hb hl r2 => q p B2 H2 ws c2 (e1.trans e2) ⟨hp.1, e1.oldN hp.2⟩ hb hl r2⟩
theorem spn_len {G : List Sl → List Dat → List Dat → List Dat → Prop} {k : Nat} (h : ∀ ss S r S', G ss S r S' → ss.length = k) : ∀ vs H Q E, SpN K G vs H Q E → vs.length = k := fun vs H Q E q => by
  obtain ⟨B, as, S, ss, r, S', c, rs, g, _⟩ := q
  rw [rs.length]
  exact h ss S r S' g
/-- isinstance told as a fact of the data -/
theorem cd_sortedI {ns ns' : List Int} (h : SeqL S x (ns.map Dat.int)) (hp : ns.Perm ns') (hs : ns'.Pairwise (· ≤ ·)) : CallD K (rSortedI K) [x] S (.lst (ns'.map Dat.int)) S := fun B H as vs c r Q q => by
  cases r with
  | cons r1 rr =>
    cases rr
    obtain ⟨a, ws, rfl, hq, hr⟩ := h.read c r1
    rw [hr.ints] at hq
    refine ⟨a, ns, rfl, Evl.sq_of hq, fun ms p h1 h2 hpn => ?_⟩
    have e : ms = ns' := (h1.trans hp).eq_of_pairwise (fun a b _ _ h1 h2 => Int.le_antisymm h1 h2) h2 hs
    subst e
    have rr : ∀ ms : List Int, Reps K (upd B p (.lst (ms.map V.int))) (ms.map V.int) (ms.map Dat.int) := fun ms => by
      have : ∀ (ks : List Int) (B : Hp), Reps K B (ks.map V.int) (ks.map Dat.int) := fun ks B => by
        induction ks with
        | nil => exact .nil
        | cons k ks ih => exact .cons (.int k) ih
      exact this ms _
    exact q _ (upd B p (.lst (ms.map V.int))) _ (c.new hpn) (Evo.new c hpn) (.lst upd_same (rr ms))
theorem ix_seqK {X : Cx} (K : PySem.W.Frag) (h : X.K = K := by rfl) : IxR X (rIx K) := h ▸ ix_seq
theorem pi_seqK {X : Cx} (K : PySem.W.Frag) {tg l : Expr} {tl : TE} (hl : PE X l tl) (h : X.K = K := by rfl) : PI X tg l (iSeq K tl) := h ▸ pi_seq hl
theorem pt_truK {X : Cx} (K : PySem.W.Frag) {e : Expr} {ta : TE} (ha : PE X e ta) (h : X.K = K := by rfl) (he : ∀ whole, isTrue e X.env whole = (do let v ← whole; standAt e.pos; holding [v] (truthy v)) := by intro _; rfl) : PT X e (tTru K ta) := h ▸ pt_tru ha he
theorem call_lenK {X : Cx} (K : PySem.W.Frag) (h : X.K = K := by rfl) : CallR X (.builtin "len") (rLenD K) := h ▸ call_lenD
theorem call_tupK {X : Cx} (K : PySem.W.Frag) (hc : X.calm = true) (h : X.K = K := by rfl) : CallR X (.type "tuple") (rTupD K) := h ▸ call_tupD hc
end
end RW

set_option Elab.async false
set_option linter.all false
set_option maxRecDepth 100000
set_option maxHeartbeats 4000000
namespace RW
open PySem PySem.Spec PyProof.Rows L2
open Evl (Ex)
section
variable {K : PySem.W.Frag} {n : Nat} {te ta tb tc to ti tv : TE} {tt tu : TT} {tA tR : TA} {env env' : Env1} {S S1 S2 S3 : List Dat} {x y z : Sl} {d e : Dat} {ds es : List Dat} {r r' : R2} {P P' : Post} {t u : TS}
  {B B0 B1 B2 B' H H0 H1 H2 H' : Hp} {as as0 as1 : List Addr} {D : Ends} {σ : L2.St} {j k : Nat} {a b c : Bool}
theorem Evo.kept {p : Addr} {o : HO} (e : Evo B1 H1 as B2 H2) (hp : p ∉ as) (h1 : H1 p = some o) (hb : B1 p = none) (ht : ∀ xs, o ≠ .tup xs := by exact fun _ z => nomatch z) (hc : ∀ a q, o ≠ LamX.CodeO a q := by (intro _ _ z; unfold LamX.CodeO at z; cases z)) (hn : ∀ ps, o ≠ .tbl ps := by exact fun _ z => nomatch z) : H2 p = some o ∧ B2 p = none :=
  have h3 := e.fr p o hp h1 hn
  ⟨h3, by
    rcases e.gr p o h1 hn with z | ⟨o', fo, z⟩
    · exact z.trans hb
    · rw [h3] at z; cases z; exact (fo.elim (fun ⟨ys, z⟩ => ht ys z) fun ⟨b, r, z⟩ => hc b r z).elim⟩
/-- (xs, y) with xs a new list that will be changed -/
theorem sp_pairC (h : EvN K ta env S ds S1) (hv : Ev K tb env S1 y S2) (q : SP K n u ((env.set j (some (.c S2.length))).set k (some y)) (S2 ++ [.lst ds]) P) :
    SP K n (tSeq (tAsg (tTup (tCons ta (tCons tb tNil))) (gTup K 2 (gCons (gName j) (gCons (gName k) gNil)))) u) env S P := fun B0 H0 as0 Bk B H as σ hl f c g D m =>
  h B H as σ c g _ fun p B1 H1 vs c1 e1 hp hb h1 r1 => hv B1 H1 as σ c1 (g.mono e1.ex) _ fun w B2 H2 c2 e2 r2 => ⟨by show 2 ≤ sizeLine; decide, fun t ht => by
    have hpa : p ∉ as := hp.1
    obtain ⟨k1, k2⟩ := e2.kept hpa h1 hb
    have c3 := c2.new (o := .tup [.ref p, w]) ht
    have e3 := Evo.new (o := .tup [.ref p, w]) c2 ht
    have e03 := (e1.trans e2).trans e3
    have npt : p ≠ t := by rintro rfl; rw [ht] at k1; cases k1
    refine ⟨t, _, rfl, Evl.st_of upd_same, rfl, _, _, rfl, _, _, rfl, rfl, ?_⟩
    refine q B0 H0 as0 Bk _ _ (as ++ [p]) _ hl ((f.step e03).push (f.evo.oldN hp.2)) (c3.push (by rw [upd_ne npt]; exact k2) hpa (.ofL (by rw [upd_ne npt]; exact k1) ((r1.mono e2.ex).mono e3.ex))) ((((g.mono e03.ex).grow).set (s := .c S2.length) j ?_).set k ((r2.mono e3.ex).grow)) D m
    exact ⟨p, by rw [← c2.len]; simp, rfl⟩⟩
/-- both new lists -/
theorem sp_pairCC (h : EvN K ta env S ds S1) (hv : EvN K tb env S1 es S2) (q : SP K n u ((env.set j (some (.c S2.length))).set k (some (.c (S2.length + 1)))) (S2 ++ [.lst ds] ++ [.lst es]) P) :
    SP K n (tSeq (tAsg (tTup (tCons ta (tCons tb tNil))) (gTup K 2 (gCons (gName j) (gCons (gName k) gNil)))) u) env S P := fun B0 H0 as0 Bk B H as σ hl f c g D m =>
  h B H as σ c g _ fun p B1 H1 vs c1 e1 hp hb h1 r1 => hv B1 H1 as σ c1 (g.mono e1.ex) _ fun p2 B2 H2 ws c2 e2 hp2 hb2 h2 r2 => ⟨by show 2 ≤ sizeLine; decide, fun t ht => by
    have hpa : p ∉ as := hp.1
    have hpa2 : p2 ∉ as := hp2.1
    have hpp : p ≠ p2 := by rintro rfl; exact hp2.2.no h1 (fun _ z => nomatch z)
    obtain ⟨k1, k2⟩ := e2.kept hpa h1 hb
    have c3 := c2.new (o := .tup [.ref p, .ref p2]) ht
    have e3 := Evo.new (o := .tup [.ref p, .ref p2]) c2 ht
    have e03 := (e1.trans e2).trans e3
    have npt : p ≠ t := by rintro rfl; rw [ht] at k1; cases k1
    have npt2 : p2 ≠ t := by rintro rfl; rw [ht] at h2; cases h2
    refine ⟨t, _, rfl, Evl.st_of upd_same, rfl, _, _, rfl, _, _, rfl, rfl, ?_⟩
    have c4 := c3.push (p := p) (by rw [upd_ne npt]; exact k2) hpa (.ofL (by rw [upd_ne npt]; exact k1) ((r1.mono e2.ex).mono e3.ex))
    have c5 := c4.push (p := p2) (by rw [upd_ne npt2]; exact hb2) (by simp [hpa2, hpp.symm]) (.ofL (by rw [upd_ne npt2]; exact h2) (r2.mono e3.ex))
    have f4 := (f.step e03).push (f.evo.oldN hp.2)
    refine q B0 H0 as0 Bk _ _ (as ++ [p] ++ [p2]) _ hl (f4.push (f.evo.oldN (e1.oldN hp2.2))) c5 ((((g.mono e03.ex).grow).grow.set (s := .c S2.length) j ?_).set (s := .c (S2.length + 1)) k ?_) D m
    · exact ⟨p, by rw [← c2.len]; simp, rfl⟩
    · exact ⟨p2, by rw [← c2.len]; simp, rfl⟩⟩
end
end RW
namespace RW
open PySem PySem.Spec PyProof.Rows L2
section
variable {K : PySem.W.Frag} {te : TE} {tA : TA} {env : Env1} {S S1 S1' : List Dat} {r : Sl} {rs : List Sl} {ds : List Dat}
theorem Ev.toS (h : Ev K te env S r S1) (e : S1 = S1') : Ev K te env S r S1' := e ▸ h
theorem EvN.toS (h : EvN K te env S ds S1) (e : S1 = S1') : EvN K te env S ds S1' := e ▸ h
theorem EvA.toS (h : EvA K tA env S rs S1) (e : S1 = S1') : EvA K tA env S rs S1' := e ▸ h
theorem it_rangeN {m : Nat} (h : EvA K tA env S [.d (.int m)] S1) (hm : m ≤ 1000) : IterD K (iRng1 tA) env S G0 ((List.range m).map fun i => Dat.int (0 + (i : Nat))) S1 := by
  have := it_range1 h ⟨by omega, by omega⟩
  rwa [Int.toNat_natCast, rng_map] at this
end
end RW

set_option Elab.async false
set_option linter.all false
set_option maxRecDepth 100000
set_option maxHeartbeats 4000000
namespace RwT
open PySem PySem.Spec PyProof.Rows L2
theorem tuple_mul1 (l : Addr) (items : Array Value) (n : Nat) (dd : Option Addr) (sl : Array (Option Value)) (u : Tok) :
    Meets (Builtin.«tuple.__mul__» ⟨[.ref l, .int 1 u], []⟩) (fun _ R s => s.heap.get? l = some { cls := .type "tuple", dict := dd, data := .seq items n, slots := sl } ∧
      R (.ok (.ret (Value.ref l))) s) :=
  .of_wp fun prog w A R s h => by
    obtain ⟨hp, g, d, tk, os⟩ := s
    obtain ⟨hl, h⟩ := h
    have f1 := AutoSeq1.idx_int
    wp_walk using wpAny_loadPart' hl
    repeat (first
      | (refine wpAny_ite_false (decide_eq_false (by decide)) ?_; wp_walk using wpAny_loadPart' hl)
      | (refine wpAny_ite_true (by simp) ?_; wp_walk using wpAny_loadPart' hl))
    exact ⟨_, rfl, h⟩
/-- tuple * n, n from 1 on -/
def rRepA (K : PySem.W.Frag) : R2 := fun x y H Q => ∃ l k xs, x = .ref l ∧ y = .int k ∧ SqT K H l xs ∧ xs ≠ [] ∧ 1 ≤ k ∧ k ≤ 1000 ∧ xs.length ≤ 1000 ∧ (k = 1 → Q (.ref l) H) ∧ (2 ≤ k → ∀ p, H p = none → Q (.ref p) (upd H p (.tup (List.replicate k.toNat xs).flatten)))
theorem op_repA {X : Cx} : OpR X (binaryOp .Mult) (rRepA X.K) := by
  intro pins s σ H x y v u Q I rx ry h
  obtain ⟨l, k, xs, rfl, rfl, hT, hne, h1, h2, hz, q1, q2⟩ := h
  by_cases hk : 2 ≤ k
  · exact op_repT pins s σ H _ _ v u Q I rx ry ⟨l, k, xs, rfl, rfl, hT, hne, hk, h2, hz, q2 hk⟩
  obtain rfl : k = 1 := by omega
  cases rx
  obtain ⟨t, rfl⟩ := ry
  obtain ⟨its, r, ⟨⟨cls, dd, data, sl⟩, ho, hc, n, hd⟩, hs⟩ := I.tuple hT
  simp only at hc hd
  subst hc hd
  refine wpAny_binaryOp_repeat_ref (T := "tuple") (U := "int") (by decide) ⟨_, ho, rfl⟩ (fun s' => typeIs_int s' 1 t) noFill_tuple_mul F.fills_int_mul F.slot_int_rmul repeat_tuple F.slot_int_index.lookup
    (call_meets F.slot_int_rmul (typeIs_int s 1 t) F.entry_int_rmul (F.args_int_rmul_2 _ _) (int_rmul_tuple 1 t l its.toArray n dd sl)
      ⟨ho, rfl, ⟨_, ho, rfl⟩, call_meets F.slot_tuple_mul ⟨_, ho, rfl⟩ F.entry_tuple_mul (F.args_tuple_mul_2 _ _) (tuple_mul1 l its.toArray n dd sl t) ⟨ho, ?_⟩⟩)
  exact ⟨.ref l, _, I, rfl, q1 rfl⟩
end RwT
namespace RW
open PySem PySem.Spec PyProof.Rows L2
theorem o_repA {K : PySem.W.Frag} {S : List Dat} {ds : List Dat} {k : Int} (hne : ds ≠ []) (h1 : 1 ≤ k) (h2 : k ≤ 1000) (hz : ds.length ≤ 1000) : Op2 K (RwT.rRepA K) (.d (.tup ds)) (.d (.int k)) S (.tup (List.replicate k.toNat ds).flatten) := fun B H as v w c r1 r2 Q q => by
  cases r2
  cases r1 with
  | tup h1' rr =>
    refine ⟨_, _, _, rfl, rfl, Evl.ex_t c.ex h1', fun e => hne ((reps_ne rr).mp e), h1, h2, by rw [rr.length]; exact hz, fun e => ?_, fun _ p hp => ?_⟩
    · subst e
      have : (List.replicate (1 : Int).toNat ds).flatten = ds := by simp
      rw [this] at q
      exact q _ B H c Evo.refl (.tup h1' rr)
    · exact q _ (upd B p _) _ (c.new hp) (Evo.new c hp) (.tup (Evl.st_of upd_same) ((reps_rep rr _).mono (Evl.Ex.new (c.Bnone hp))))
end RW

set_option Elab.async false
set_option linter.all false
set_option maxRecDepth 100000
set_option maxHeartbeats 4000000
namespace RW
open PySem PySem.Spec PyProof.Rows L2
open Evl (Ex)
theorem it_down {K : PySem.W.Frag} {tA : TA} {env : Env1} {S S1 : List Dat} {m : Nat} (h : EvA K tA env S [.d (.int ((m : Int) - 1)), .d (.int (-1)), .d (.int (-1))] S1) (hm : m ≤ 1000) : IterD K (iRng3 tA) env S G0 (rngR 0 m) S1 := fun B H as σ c g R q =>
  h B H as σ c g _ fun vs B1 H1 c1 e1 r1 => by
    cases r1 with
    | cons r1 rr =>
      cases rr with
      | cons r2 rr =>
        cases rr with
        | cons r3 rr =>
          cases rr
          cases r1; cases r2; cases r3
          have hc : RgC ((m : Int) - 1) (-1) (-1) m := by
            have := RgC.neg (i := (m : Int) - 1) (j := -1) (by omega) (by omega) (by omega) (by omega)
            rwa [show ((m : Int) - 1 - -1).toNat = m by omega] at this
          have hw : WalkD K B1 (Itc (0 + (m : Int) - 1) (-1) m) (G0 as) (rngR 0 m) := walk_rngR
          rw [show (0 : Int) + (m : Int) - 1 = (m : Int) - 1 by omega] at hw
          exact ⟨_, _, _, m, rfl, hc, q _ B1 H1 c1 e1 hw⟩
end RW

set_option Elab.async false
set_option linter.all false
set_option maxRecDepth 100000
set_option maxHeartbeats 4000000
namespace RW
open PySem PySem.Spec PyProof.Rows L2
open Evl (Ex)
/-! ### x is True, x is False: whatever x is -/
def rIsX (neg : Bool) : R2 := fun x y H Q => ∃ b : Bool, y = .bl b ∧ Q (.bl (neg != decide (x = .bl b))) H
theorem plainIs_bl {x : V} {v : Value} {b : Bool} (r : RelV x v) : plainIs v (.bool b) = true ∧ (v == Value.bool b) = decide (x = .bl b) := by
  cases x with
  | bl c =>
    cases (show v = Value.bool c from r)
    refine ⟨rfl, ?_⟩
    by_cases e : c = b
    · subst e; simp
    · have h1 : ¬ (V.bl c = V.bl b) := fun z => e (V.bl.inj z)
      rw [decide_eq_false h1]
      exact beq_eq_false_iff_ne.mpr fun z => e (Value.bool.inj z)
  | non => cases (show v = Value.none from r); exact ⟨rfl, by rw [decide_eq_false (fun z => nomatch z)]; exact beq_eq_false_iff_ne.mpr fun z => nomatch z⟩
  | int i => obtain ⟨t, rfl⟩ := r; exact ⟨rfl, by rw [decide_eq_false (fun z => nomatch z)]; exact beq_eq_false_iff_ne.mpr fun z => nomatch z⟩
  | str i => obtain ⟨t, rfl⟩ := r; exact ⟨rfl, by rw [decide_eq_false (fun z => nomatch z)]; exact beq_eq_false_iff_ne.mpr fun z => nomatch z⟩
  | byt i => obtain ⟨t, rfl⟩ := r; exact ⟨rfl, by rw [decide_eq_false (fun z => nomatch z)]; exact beq_eq_false_iff_ne.mpr fun z => nomatch z⟩
  | flt i => obtain ⟨t, rfl⟩ := r; exact ⟨rfl, by rw [decide_eq_false (fun z => nomatch z)]; exact beq_eq_false_iff_ne.mpr fun z => nomatch z⟩
  | ref a => cases (show v = Value.ref a from r); exact ⟨rfl, by rw [decide_eq_false (fun z => nomatch z)]; exact beq_eq_false_iff_ne.mpr fun z => nomatch z⟩
  | ty n => cases (show v = Value.type n from r); exact ⟨rfl, by rw [decide_eq_false (fun z => nomatch z)]; exact beq_eq_false_iff_ne.mpr fun z => nomatch z⟩
theorem op_isX {X : Cx} : OpR X (compareOp .Is) (rIsX false) := by
  intro pins s σ H x y v u Q I rx ry h
  obtain ⟨b, rfl, q⟩ := h
  cases (show u = Value.bool b from ry)
  obtain ⟨h1, h2⟩ := plainIs_bl (b := b) rx
  refine wpAny_is_plain h1 ⟨.bl (decide (x = .bl b)), H, I, ?_, by simpa using q⟩
  rw [h2]; rfl
theorem op_notX {X : Cx} : OpR X (compareOp .IsNot) (rIsX true) := by
  intro pins s σ H x y v u Q I rx ry h
  obtain ⟨b, rfl, q⟩ := h
  cases (show u = Value.bool b from ry)
  obtain ⟨h1, h2⟩ := plainIs_bl (b := b) rx
  refine wpAny_isNot_plain h1 ⟨.bl (!decide (x = .bl b)), H, I, ?_, by simpa using q⟩
  rw [h2]; rfl
section
variable {K : PySem.W.Frag} {S : List Dat} {i : Int} {b c : Bool} {neg : Bool}
theorem o_isX_int : Op2 K (rIsX neg) (.d (.int i)) (.d (.bl b)) S (.bl neg) := fun B H as v w k h1 h2 Q q => by
  cases h1; cases h2
  refine ⟨b, rfl, ?_⟩
  have e : (neg != decide (V.int i = V.bl b)) = neg := by cases neg <;> rfl
  rw [e]
  exact q _ B H k Evo.refl (.bl _)
end
end RW

set_option Elab.async false
set_option linter.all false
set_option maxRecDepth 100000
set_option maxHeartbeats 4000000
namespace RwT
open PySem PySem.Spec PyProof.Rows L2
section
variable {prog : Program} {w : World} {A : Around} {E : Value → Shared → Prop} {s : Shared} {K : PySem.W.Frag} {x y C f : Addr} {ox oy : Obj} {od od' : Option Obj}
theorem entry_ne (hu : A.units < cLine) (X : K.In s.heap) (I : PySem.W.InstAt s.heap x ox C od) (hs : PySem.W.findIn K (.ref C) "__eq__" = some (some (.ref f))) (hf : PySem.W.isFn K (.ref f) = true) {Q : Fin → Shared → Prop}
    (hcall : wpAny (model prog w) A (call (.ref f) [.ref x, .ref y]) (fun v s' => ∃ b, v = .bool b ∧ Q (.done (.ret (.bool (!b)))) s') E s) :
    wpAny (model prog w) A (Builtin.«object.__ne__» ⟨[.ref x, .ref y], []⟩) Q E s := by
  unfold Builtin.«object.__ne__»
  repeat (first
    | with_reducible refine wpAny_cRoomFor hu ?_
    | (refine wpAny_bind (m := callSpecialIfBound? (.ref x) (Str.ofString "__eq__") [.ref y])
        (PySem.W.ifBound_K X I hs hf (wpAny_mono hcall (fun r s' hr => by
          obtain ⟨b, rfl, hq⟩ := hr
          repeat (first | exact hq | exact wpAny_pure hq | exact wpAny_truthy_bool hq | (refine wpAny_bind (m := truthy (.bool _)) (wpAny_truthy_bool ?_)) | wp_step)) fun _ _ e => e)))
    | wp_step)
theorem ifBound_objNe {M : Model} {args : List Value} {Q : Option Value → Shared → Prop} (X : K.In s.heap) (I : PySem.W.InstAt s.heap x ox C od) (hs : PySem.W.findIn K (.ref C) "__ne__" = some (some (.builtin "object.__ne__")))
    (h : wpAny M A (call (.builtin "object.__ne__") (.ref x :: args)) (fun v => Q (some v)) E s) : wpAny M A (callSpecialIfBound? (.ref x) "__ne__" args) Q E s := by
  simp only [callSpecialIfBound?, bindSpecialIfBound?]
  refine wpAny_holding (wpAny_bind (wpAny_bind (wpAny_bind (I.type.here ((PySem.W.looks_findIn X hs).here ?_)))))
  refine wpAny_bind (wpAny_askSetting (wpAny_ite ?_))
  have fin : wpAny M A (call (.builtin "object.__ne__") ([.ref x] ++ args) >>= fun v => pure (some v)) Q E s := wpAny_bind (wpAny_mono h (fun v s' h' => wpAny_pure h') fun _ _ h' => h')
  split
  · exact wpAny_bind (wpAny_of_eq (F.cmp_object.ne.bind _) (wpAny_pure (by exact fin)))
  · exact wpAny_tryCatch (wpAny_bind (wpAny_of_eq (F.cmp_object.ne.bind _) (wpAny_pure (by exact fin))))
theorem rich_ne (hu : A.units + 1 < cLine) (X : K.In s.heap) (I : PySem.W.InstAt s.heap x ox C od) (I' : PySem.W.InstAt s.heap y oy C od') (hm : PySem.W.mroIn K C (.type "object") = some true)
    (hn : PySem.W.findIn K (.ref C) "__ne__" = some (some (.builtin "object.__ne__"))) (hs : PySem.W.findIn K (.ref C) "__eq__" = some (some (.ref f))) (hf : PySem.W.isFn K (.ref f) = true) {Q : Value → Shared → Prop}
    (hcall : wpAny (model prog w) A.in1 (call (.ref f) [.ref x, .ref y]) (fun v s' => ∃ b, v = .bool b ∧ Q (.bool (!b)) s') E s) :
    wpAny (model prog w) A (richCompare .NotEq (.ref x) (.ref y)) Q E s := by
  have one : wpAny (model prog w) A (tryCompare (.ref x) "__ne__" (.ref y)) (fun r s' => ∃ b, r = some (Value.bool b) ∧ Q (.bool b) s') E s := by
    unfold tryCompare
    refine wpAny_bind (ifBound_objNe X I hn (wpAny_call (codeAny_call_builtin F.cmp_object.ne.plain F.cmpEntry_ne (PySem.W.check_slot F.cmpKind_ne F.cmpSplit_ne (I.type.andThen (PySem.W.looks_mroIn X hm)) (F.cmpArgs_ne _ _)
      (entry_ne (A := A.in1) hu X I hs hf (wpAny_mono hcall (fun v s' hv => ?_) fun _ _ e => e))))))
    obtain ⟨b, rfl, hq⟩ := hv
    first | exact ⟨b, rfl, wpAny_pure ⟨_, rfl, hq⟩⟩ | exact ⟨b, rfl, wpAny_pure (wpAny_pure ⟨_, rfl, hq⟩)⟩
  unfold richCompare
  simp only [oneThing_ref]
  refine wpAny_holding (wpAny_bind (wpAny_cRoomFor (Nat.lt_of_succ_lt hu) ?_))
  rw [cmpInfo_NotEq]
  dsimp only
  refine wpAny_bind (I.type.here (wpAny_bind (I'.type.here ?_)))
  rw [show (Value.ref C != Value.ref C) = false from by simp]
  simp only [Bool.false_eq_true, if_false]
  refine wpAny_bind (wpAny_pure ?_)
  simp only [Bool.false_eq_true, if_false]
  refine wpAny_bind (wpAny_mono one (fun v s' hv => ?_) fun _ _ e => e)
  obtain ⟨b, rfl, hq⟩ := hv
  first | exact wpAny_pure hq | exact wpAny_pure (wpAny_pure hq)
end
/-- what is known of a class with an own == -/
structure OwnC (K : PySem.W.Frag) (C f : Addr) : Prop where
  eq : PySem.W.findIn K (.ref C) "__eq__" = some (some (.ref f))
  fn : PySem.W.isFn K (.ref f) = true
  ne : PySem.W.findIn K (.ref C) "__ne__" = some (some (.builtin "object.__ne__"))
  ob : PySem.W.mroIn K C (.type "object") = some true
  sub : PySem.W.notFirst K C (.ref C) = true
def rOwn (C : Addr) (sp : Sp) (E : XK) (neg : Bool) : R2 := fun x y H Q => ∃ a b dx dy fs gs, x = .ref a ∧ y = .ref b ∧ H a = some (.ins C dx fs) ∧ H b = some (.ins C dy gs) ∧ sp [.ref a, .ref b] H (fun v H' => ∃ k, v = .bl k ∧ Q (.bl (neg != k)) H') E
section
variable {X : Cx} {CX : CXT} {n : Nat} {C f : Addr} {fd : FuncData} {ps : List Str} {sp : Sp} {E : XK}
theorem call_own {A : Around} (hr : Room n A) (hA : A.frames = X.A.frames) (F : FnOk X.prog X.w X.K X.mg X.base CX n f fd ps sp) (hb : L2.Binds X.K fd ps []) (hx : Passes CX X E) {pins : List (Addr × Obj)} {σ : L2.St} {H : Hp} {s : Shared} (I : Inv X pins σ H s) {a b : Addr} {Q : VK} (h : sp [.ref a, .ref b] H Q E) :
    wpAny (model X.prog X.w) A (call (.ref f) [.ref a, .ref b]) (EP X pins σ Q) X.xe s := by
  have e0 : Env0 X.prog X.w X.K X.mg X.base A X.stack s H := by
    have e := I.env0
    exact ⟨by rw [hA]; exact e.frames, e.mod, e.bs, e.bsz, e.funs, e.frf, e.hok, e.bare⟩
  have hl := F.len _ _ _ _ h
  have r2 : Vals [V.ref a, V.ref b] [Value.ref a, Value.ref b] := .cons rfl (.cons rfl .nil)
  refine wpAny_call (codeAny_mono (F.run A X.stack s H ⟨[.ref a, .ref b], []⟩ [.ref a, .ref b] [.ref a, .ref b] _ E hr e0 (by
    have := hb s [.ref a, .ref b] I.kIn (by simpa using hl)
    simpa using this) r2 h) fun r s' hq => ?_)
  cases r with
  | error e => exact hx pins σ H s e s' I hq
  | ok fl =>
    cases fl with
    | ret w => exact I.after hq
    | next => exact False.elim hq
    | brk => exact False.elim hq
    | cont => exact False.elim hq
theorem op_ownEq (O : OwnC X.K C f) (hr : Room n X.A) (F : FnOk X.prog X.w X.K X.mg X.base CX n f fd ps sp) (hb : L2.Binds X.K fd ps []) (hx : Passes CX X E) : OpR X (compareOp .Eq) (rOwn C sp E false) := by
  intro pins s σ H x y v u Q I rx ry h
  obtain ⟨a, b, dx, dy, fs, gs, rfl, rfl, ha, hb', hp⟩ := h
  cases rx
  cases ry
  obtain ⟨mA, J, _⟩ := ins_get I.hok ha
  obtain ⟨mB, J', _⟩ := ins_get I.hok hb'
  obtain ⟨od, J, _⟩ := J.look
  obtain ⟨od', J', _⟩ := J'.look
  obtain ⟨m, hF⟩ := I.fr
  show wpAny (model X.prog X.w) X.A (richCompare .Eq (.ref a) (.ref b)) (EP X pins σ Q) X.xe s
  refine PySem.W.cmp_K (op := .Eq) (tb := .ref C) hr.units0 hF I.ok.mod.kin J J'.type O.sub O.eq O.fn ?_
  refine wpAny_mono (call_own hr rfl F hb hx I hp) (fun r s' q => ?_) fun _ _ x => x
  obtain ⟨z, H', I', rz, k, ez, q⟩ := q
  subst ez
  cases rz
  exact ⟨.bl k, H', I', rfl, by simpa using q⟩
theorem op_ownNe (O : OwnC X.K C f) (hr : Room (n + 1) X.A) (F : FnOk X.prog X.w X.K X.mg X.base CX n f fd ps sp) (hb : L2.Binds X.K fd ps []) (hx : Passes CX X E) : OpR X (compareOp .NotEq) (rOwn C sp E true) := by
  intro pins s σ H x y v u Q I rx ry h
  obtain ⟨a, b, dx, dy, fs, gs, rfl, rfl, ha, hb', hp⟩ := h
  cases rx
  cases ry
  obtain ⟨mA, J, _⟩ := ins_get I.hok ha
  obtain ⟨mB, J', _⟩ := ins_get I.hok hb'
  obtain ⟨od, J, _⟩ := J.look
  obtain ⟨od', J', _⟩ := J'.look
  show wpAny (model X.prog X.w) X.A (richCompare .NotEq (.ref a) (.ref b)) (EP X pins σ Q) X.xe s
  refine rich_ne (by have := hr.un; omega) I.kIn J J' O.ob O.ne O.eq O.fn ?_
  refine wpAny_mono (call_own hr.in1 rfl F hb hx I hp) (fun r s' q => ?_) fun _ _ x => x
  obtain ⟨z, H', I', rz, k, ez, q⟩ := q
  subst ez
  cases rz
  exact ⟨k, rfl, .bl (!k), H', I', rfl, by simpa using q⟩
end
end RwT
namespace RW
open PySem PySem.Spec PyProof.Rows L2
theorem o_own {K : PySem.W.Frag} {C : Addr} {G : List Sl → List Dat → Dat → List Dat → Prop} {E : XK} {neg k : Bool} {S : List Dat} {fs gs : List (Str × Dat)} (hg : G [.d (.ins C fs), .d (.ins C gs)] S (.bl k) S) :
    Op2 K (RwT.rOwn C (SpD K G) E neg) (.d (.ins C fs)) (.d (.ins C gs)) S (.bl (neg != k)) := fun B H as v w c r1 r2 Q q => by
  cases r1 with
  | ins h1 q1 =>
    cases r2 with
    | ins h2 q2 =>
      refine ⟨_, _, _, _, _, _, rfl, rfl, c.ex _ _ h1, c.ex _ _ h2, B, as, S, [.d (.ins C fs), .d (.ins C gs)], _, S, c, .cons (Rep.ins h1 q1 : Rep K B _ (.ins C fs)) (.cons (Rep.ins h2 q2 : Rep K B _ (.ins C gs)) .nil), hg, fun v B' H' c' e' r' => ?_⟩
      cases r'
      exact ⟨k, rfl, q _ B' H' c' e' (.bl _)⟩
end RW

set_option Elab.async false
set_option linter.all false
set_option maxRecDepth 100000
set_option maxHeartbeats 4000000
namespace RW
open PySem PySem.Spec PyProof.Rows L2
section
variable {K : PySem.W.Frag} {te ta tb to : TE} {tA : TA} {env : Env1} {S S1 S2 : List Dat} {x y : Sl} {a b acc out : Str} {ts : List TE} {i : Int}
/-! ### texts -/
theorem ev_fmtS (h : Ev K te env S (.d (.str a)) S1) (hl : a.length ≤ sizeLine) : Ev K (tFmt te) env S (.d (.str a)) S1 := fun B H as σ c g Q q =>
  h B H as σ c g _ fun v B1 H1 c1 e1 r1 => by
    cases r1
    exact .inl ⟨a, rfl, hl, q _ B1 H1 c1 e1 (.str a)⟩
theorem ev_fmtI (h : Ev K te env S (.d (.int i)) S1) (hl : i.natAbs.log2 < 1920) : Ev K (tFmt te) env S (.d (.str (Str.ofString (toString i)))) S1 := fun B H as σ c g Q q =>
  h B H as σ c g _ fun v B1 H1 c1 e1 r1 => by
    cases r1
    exact .inr ⟨i, rfl, hl, q _ B1 H1 c1 e1 (.str _)⟩
/-- the parts of an f-string, behind acc -/
def EvJ (K : PySem.W.Frag) (ts : List TE) (env : Env1) (S : List Dat) (acc out : Str) (S' : List Dat) : Prop :=
  ∀ B H as σ, Ok K B H as S → EnvR K B as σ env → ∀ Q : Str → Hp → Prop, (∀ B' H', Ok K B' H' as S' → Evo B H as B' H' → Q out H') → tJs ts acc σ H Q
theorem js_nil : EvJ K [] env S acc acc S := fun B H as σ c g Q q => q B H c Evo.refl
theorem js_cons {t : TE} (h : Ev K t env S (.d (.str a)) S1) (hl : (acc ++ a).length ≤ sizeLine) (k : EvJ K ts env S1 (acc ++ a) out S2) : EvJ K (t :: ts) env S acc out S2 := fun B H as σ c g Q q =>
  h B H as σ c g _ fun v B1 H1 c1 e1 r1 => by
    cases r1
    exact ⟨a, rfl, hl, k B1 H1 as σ c1 (g.mono e1.ex) _ fun B2 H2 c2 e2 => q B2 H2 c2 (e1.trans e2)⟩
theorem ev_joined (h : EvJ K ts env S Str.empty out S1) : Ev K (fun σ H Q => tJs ts Str.empty σ H fun out H1 => Q (.str out) H1) env S (.d (.str out)) S1 := fun B H as σ c g Q q =>
  h B H as σ c g _ fun B1 H1 c1 e1 => q _ B1 H1 c1 e1 (.str out)
/-- str(i) -/
def rStrI : List V → Hp → VK → Prop := fun xs H Q => ∃ i : Int, xs = [.int i] ∧ i.natAbs.log2 < 1920 ∧ Q (.str (Str.ofString (toString i))) H
theorem call_strI {X : Cx} : CallR X (.type "str") rStrI := call_str_int
theorem cd_strI (hl : i.natAbs.log2 < 1920) : CallD K rStrI [.d (.int i)] S (.str (Str.ofString (toString i))) S := fun B H as vs c r Q q => by
  cases r with
  | cons r1 rr =>
    cases rr; cases r1
    exact ⟨i, rfl, hl, q _ B H c Evo.refl (.str _)⟩
def rAddS : R2 := fun x y H Q => ∃ i j, x = V.str i ∧ y = V.str j ∧ i.length + j.length ≤ sizeLine ∧ Q (V.str (i ++ j)) H
theorem op_addS {X : Cx} : OpR X (binaryOp .Add) rAddS := op_add_str
theorem o_addS (hl : a.length + b.length ≤ sizeLine) : Op2 K rAddS (.d (.str a)) (.d (.str b)) S (.str (a ++ b)) := fun B H as v w c r1 r2 Q q => by
  cases r1; cases r2
  exact ⟨a, b, rfl, rfl, hl, q _ B H c Evo.refl (.str _)⟩
theorem Reps.strs {B : Hp} : ∀ {vs : List V} {ys : List Str}, Reps K B vs (ys.map Dat.str) → vs = ys.map V.str
  | _, [], .nil => rfl
  | _, y :: ys, .cons h r => by
    cases h
    rw [List.map_cons, Reps.strs r]
/-- sep.join(xs) -/
def rJoinD (K : PySem.W.Frag) : V → List V → Hp → VK → Prop := fun x xs H Q => ∃ a p ys, x = V.str a ∧ xs = [V.ref p] ∧ (SqL K H p (List.map V.str ys) ∨ SqT K H p (List.map V.str ys)) ∧ (List.map (fun x => x.length) ys).sum + ys.length * a.length ≤ 16777216 ∧ Q (V.str (Txt.join a ys)) H
theorem pe_joinK {X : Cx} (K : PySem.W.Frag) {o e : Expr} {to te : TE} {apos pos : Pos} (ho : PE X o to) (he : PE X e te) (hK : X.K = K := by rfl) (hs : starEach [e] X.env = [(false, eval e X.env)] := by rfl)
    (hb : attributeBase o (Str.ofString "join") X.env (eval o X.env) = eval o X.env := by rfl) (hl : (apos.endLine == pos.line) = true := by rfl) : PE X ((o.Attribute (Str.ofString "join") apos).Call [e] [] pos) (tM1 (rJoinD K) to te) := hK ▸ pe_join ho he hs hb hl
theorem ev_join {ys : List Str} (ho : Ev K to env S (.d (.str a)) S1) (h : Ev K te env S1 x S2) (hx : SeqL S2 x (ys.map Dat.str)) (hl : (ys.map fun x => x.length).sum + ys.length * a.length ≤ 16777216) : Ev K (tM1 (rJoinD K) to te) env S (.d (.str (Txt.join a ys))) S2 := fun B H as σ c g Q q =>
  ho B H as σ c g _ fun v B1 H1 c1 e1 r1 => by
    cases r1
    refine ⟨⟨a, rfl⟩, h B1 H1 as σ c1 (g.mono e1.ex) _ fun w B2 H2 c2 e2 r2 => ?_⟩
    obtain ⟨p, ws, rfl, hq, hr⟩ := hx.read c2 r2
    rw [hr.strs] at hq
    exact ⟨a, p, ys, rfl, rfl, .inl (Evl.sq_of hq), hl, q _ B2 H2 c2 (e1.trans e2) (.str _)⟩
end
end RW

namespace RwT
open PySem PySem.Spec PyProof.Rows L2
/-- str(o), o of an own class with a __str__ -/
def rStrO (C : Addr) (sp : Sp) (E : XK) : List V → Hp → VK → Prop := fun xs H Q => ∃ a dx fs, xs = [.ref a] ∧ H a = some (.ins C dx fs) ∧ sp [.ref a] H (fun v H' => ∃ t, v = .str t ∧ Q (.str t) H') E
section
variable {X : Cx} {CX : CXT} {n : Nat} {C f : Addr} {fd : FuncData} {ps : List Str} {sp : Sp} {E : XK}
theorem call_own1 {A : Around} (hr : Room n A) (hA : A.frames = X.A.frames) (F : FnOk X.prog X.w X.K X.mg X.base CX n f fd ps sp) (hb : L2.Binds X.K fd ps []) (hx : Passes CX X E) {pins : List (Addr × Obj)} {σ : L2.St} {H : Hp} {s : Shared} (I : Inv X pins σ H s) {a : Addr} {Q : VK} (h : sp [.ref a] H Q E) :
    wpAny (model X.prog X.w) A (call (.ref f) [.ref a]) (EP X pins σ Q) X.xe s := by
  have e0 : Env0 X.prog X.w X.K X.mg X.base A X.stack s H := by
    have e := I.env0
    exact ⟨by rw [hA]; exact e.frames, e.mod, e.bs, e.bsz, e.funs, e.frf, e.hok, e.bare⟩
  have hl := F.len _ _ _ _ h
  have r2 : Vals [V.ref a] [Value.ref a] := .cons rfl .nil
  refine wpAny_call (codeAny_mono (F.run A X.stack s H ⟨[.ref a], []⟩ [.ref a] [.ref a] _ E hr e0 (by
    have := hb s [.ref a] I.kIn (by simpa using hl)
    simpa using this) r2 h) fun r s' hq => ?_)
  cases r with
  | error e => exact hx pins σ H s e s' I hq
  | ok fl =>
    cases fl with
    | ret w => exact I.after hq
    | next => exact False.elim hq
    | brk => exact False.elim hq
    | cont => exact False.elim hq
theorem call_strO (hs : PySem.W.findIn X.K (.ref C) "__str__" = some (some (.ref f))) (hf : PySem.W.isFn X.K (.ref f) = true) (hr : Room (n + 2) X.A) (F : FnOk X.prog X.w X.K X.mg X.base CX n f fd ps sp) (hb : L2.Binds X.K fd ps []) (hx : Passes CX X E) : CallR X (.type "str") (rStrO C sp E) := by
  intro pins s σ H xs us Q I r h
  obtain ⟨a, dx, fs, rfl, ha, hp⟩ := h
  obtain ⟨u, rfl, r1⟩ := vals1 r
  cases r1
  obtain ⟨mA, J, _⟩ := ins_get I.hok ha
  obtain ⟨od, J, _⟩ := J.look
  have hr2 : Room n X.A.in1.in1 := (show Room (n + 1) X.A.in1 from Room.in1 hr).in1
  refine PySem.W.kso_call (by have := hr2.un; omega) I.kIn J hs hf ?_
  refine wpAny_mono (call_own1 hr2 rfl F hb hx I hp) (fun r s' q => ?_) fun _ _ x => x
  obtain ⟨z, H', I', rz, t, ez, q⟩ := q
  subst ez
  obtain ⟨tk, rfl⟩ := rz
  exact ⟨.str t, H', I', ⟨tk, rfl⟩, q⟩
end
end RwT
namespace RW
open PySem PySem.Spec PyProof.Rows L2
theorem cd_strO {K : PySem.W.Frag} {C : Addr} {G : List Sl → List Dat → Dat → List Dat → Prop} {E : XK} {S : List Dat} {fs : List (Str × Dat)} {t : Str} (hg : G [.d (.ins C fs)] S (.str t) S) :
    CallD K (RwT.rStrO C (SpD K G) E) [.d (.ins C fs)] S (.str t) S := fun B H as vs c r Q q => by
  cases r with
  | cons r1 rr =>
    cases rr
    cases r1 with
    | ins h1 q1 =>
      refine ⟨_, _, _, rfl, c.ex _ _ h1, B, as, S, [.d (.ins C fs)], _, S, c, .cons (Rep.ins h1 q1 : Rep K B _ (.ins C fs)) .nil, hg, fun v B' H' c' e' r' => ?_⟩
      cases r'
      exact ⟨t, rfl, q _ B' H' c' e' (.str _)⟩
end RW

set_option Elab.async false
set_option linter.all false
set_option maxRecDepth 100000
set_option maxHeartbeats 4000000
namespace RW
open PySem PySem.Spec PyProof.Rows L2
/-! rules inside comprehensions, with K given -/
theorem cr_sumK {X : Cx} (K : PySem.W.Frag) (hc : X.calm = true := by rfl) (h : X.K = K := by rfl) : CallR X (.builtin "sum") (rSum K) := h ▸ cr_sum hc
theorem cr_allK {X : Cx} (K : PySem.W.Frag) (hc : X.calm = true := by rfl) (h : X.K = K := by rfl) : CallR X (.builtin "all") (rAll K) := h ▸ cr_all hc
theorem cr_anyK {X : Cx} (K : PySem.W.Frag) (hc : X.calm = true := by rfl) (h : X.K = K := by rfl) : CallR X (.builtin "any") (rAny K) := h ▸ cr_any hc
theorem pi_zipGK {X : Cx} (K : PySem.W.Frag) {e e2 : Expr} {ta : TA} {p pos tpos : Pos} {elts : List Expr} {kk : Nat} (hg : Gl X "zip") (hm : X.mg "zip" = none) (ha : PA X [e, e2] ta) (h : X.K = K := by rfl)
    (hs : starEach [e, e2] X.env = (false, eval e X.env) :: starEach [e2] X.env := by rfl) (hpl : (backTo pos (starEach [e2] X.env)).any (·.1) = false := by rfl) :
    PI X (.Tuple elts kk tpos) (.Call (.Name "zip" p) [e, e2] [] pos) (iZipG K ta) := h ▸ pi_zipG hg hm ha hs hpl
theorem op_eqDK {X : Cx} (K : PySem.W.Frag) (hu : X.A.units + 64 < cLine) (h : X.K = K := by rfl) : OpR X (compareOp .Eq) (rEqD K) := h ▸ op_eqD hu
theorem op_neDK {X : Cx} (K : PySem.W.Frag) (hu : X.A.units + 64 < cLine) (h : X.K = K := by rfl) : OpR X (compareOp .NotEq) (rNeD K) := h ▸ op_neD hu
theorem EvN.toD {K : PySem.W.Frag} {te : TE} {env : Env1} {S S1 ds ds' : List Dat} (h : EvN K te env S ds S1) (e : ds = ds') : EvN K te env S ds' S1 := e ▸ h
theorem Ev.to' {K : PySem.W.Frag} {te : TE} {env : Env1} {S S1 S1' : List Dat} {r r' : Sl} (h : Ev K te env S r S1) (e : r = r') (e2 : S1 = S1') : Ev K te env S r' S1' := e ▸ e2 ▸ h
theorem sl_tupAK {X : Cx} (K : PySem.W.Frag) (h : X.K = K := by rfl) : SlR X (rSlA K) := h ▸ sl_tupA
theorem sl_listK {X : Cx} (K : PySem.W.Frag) (h : X.K = K := by rfl) : SlR X (rSlL K) := h ▸ sl_list
end RW

set_option Elab.async false
set_option linter.all false
set_option maxRecDepth 100000
set_option maxHeartbeats 4000000
/-! an own == beside whatever stands on its right -/
namespace RwT
open PySem PySem.Spec PyProof.Rows L2
inductive TyB (K : PySem.W.Frag) (H : Hp) : V → Value → Prop where
  | non : TyB K H .non (.type "NoneType")
  | int (i : Int) : TyB K H (.int i) (.type "int")
  | bl (b : Bool) : TyB K H (.bl b) (.type "bool")
  | str (z : Str) : TyB K H (.str z) (.type "str")
  | tup {a : Addr} {xs : List V} (h : SqT K H a xs) : TyB K H (.ref a) (.type "tuple")
  | ins {a C dx : Addr} {fs : List (Str × V)} (h : H a = some (.ins C dx fs)) : TyB K H (.ref a) (.ref C)
def rOwnA (K : PySem.W.Frag) (C : Addr) (sp : Sp) (E : XK) : R2 := fun x y H Q => ∃ a dx fs tb, x = .ref a ∧ H a = some (.ins C dx fs) ∧ TyB K H y tb ∧ PySem.W.notFirst K C tb = true ∧ sp [.ref a, y] H (fun v H' => ∃ k, v = .bl k ∧ Q (.bl k) H') E
section
variable {X : Cx} {CX : CXT} {n : Nat} {C f : Addr} {fd : FuncData} {ps : List Str} {sp : Sp} {E : XK}
theorem tyB_looks {M : Model} {pins : List (Addr × Obj)} {σ : L2.St} {H : Hp} {s : Shared} {y : V} {u tb : Value} (I : Inv X pins σ H s) (ry : RelV y u) (t : TyB X.K H y tb) : PySem.W.Looks M s.heap (typeOf u) tb := by
  cases t with
  | non => cases (show u = Value.none from ry); exact .of_pure rfl
  | int i => obtain ⟨tk, rfl⟩ := (show ∃ tk, u = Value.int i tk from ry); exact .of_pure rfl
  | bl b => cases (show u = Value.bool b from ry); exact .of_pure rfl
  | str z => obtain ⟨tk, rfl⟩ := (show ∃ tk, u = Value.str z tk from ry); exact .of_pure rfl
  | tup h =>
    cases (show u = Value.ref _ from ry)
    obtain ⟨its, rv, ⟨o, e, c, _⟩, _⟩ := I.tuple h
    exact c ▸ (PySem.W.Looks.ld e).andThen .now
  | ins h =>
    cases (show u = Value.ref _ from ry)
    obtain ⟨mA, J, _⟩ := ins_get I.hok h
    obtain ⟨od, J, _⟩ := J.look
    exact J.type
theorem call_ownV {A : Around} (hr : Room n A) (hA : A.frames = X.A.frames) (F : FnOk X.prog X.w X.K X.mg X.base CX n f fd ps sp) (hb : L2.Binds X.K fd ps []) (hx : Passes CX X E) {pins : List (Addr × Obj)} {σ : L2.St} {H : Hp} {s : Shared} (I : Inv X pins σ H s) {a : Addr} {y : V} {u : Value} (ry : RelV y u) {Q : VK} (h : sp [.ref a, y] H Q E) :
    wpAny (model X.prog X.w) A (call (.ref f) [.ref a, u]) (EP X pins σ Q) X.xe s := by
  have e0 : Env0 X.prog X.w X.K X.mg X.base A X.stack s H := by
    have e := I.env0
    exact ⟨by rw [hA]; exact e.frames, e.mod, e.bs, e.bsz, e.funs, e.frf, e.hok, e.bare⟩
  have hl := F.len _ _ _ _ h
  have r2 : Vals [V.ref a, y] [Value.ref a, u] := .cons rfl (.cons ry .nil)
  refine wpAny_call (codeAny_mono (F.run A X.stack s H ⟨[.ref a, u], []⟩ [.ref a, u] [.ref a, y] _ E hr e0 (by
    have := hb s [.ref a, u] I.kIn (by simpa using hl)
    simpa using this) r2 h) fun r s' hq => ?_)
  cases r with
  | error e => exact hx pins σ H s e s' I hq
  | ok fl =>
    cases fl with
    | ret w => exact I.after hq
    | next => exact False.elim hq
    | brk => exact False.elim hq
    | cont => exact False.elim hq
theorem op_ownEqA (O : OwnC X.K C f) (hr : Room n X.A) (F : FnOk X.prog X.w X.K X.mg X.base CX n f fd ps sp) (hb : L2.Binds X.K fd ps []) (hx : Passes CX X E) : OpR X (compareOp .Eq) (rOwnA X.K C sp E) := by
  intro pins s σ H x y v u Q I rx ry h
  obtain ⟨a, dx, fs, tb, rfl, ha, ty, hn, hp⟩ := h
  cases rx
  obtain ⟨mA, J, _⟩ := ins_get I.hok ha
  obtain ⟨od, J, _⟩ := J.look
  obtain ⟨m, hF⟩ := I.fr
  show wpAny (model X.prog X.w) X.A (richCompare .Eq (.ref a) u) (EP X pins σ Q) X.xe s
  refine PySem.W.cmp_K (op := .Eq) (tb := tb) hr.units0 hF I.ok.mod.kin J (tyB_looks I ry ty) hn O.eq O.fn ?_
  refine wpAny_mono (call_ownV hr rfl F hb hx I ry hp) (fun r s' q => ?_) fun _ _ x => x
  obtain ⟨z, H', I', rz, k, ez, q⟩ := q
  subst ez
  cases rz
  exact ⟨.bl k, H', I', rfl, by simpa using q⟩
theorem op_ownEqAK {K : PySem.W.Frag} (O : OwnC X.K C f) (hr : Room n X.A) (F : FnOk X.prog X.w X.K X.mg X.base CX n f fd ps sp) (hb : L2.Binds X.K fd ps []) (hx : Passes CX X E) (h : X.K = K := by rfl) : OpR X (compareOp .Eq) (rOwnA K C sp E) := h ▸ op_ownEqA O hr F hb hx
end
end RwT
namespace RW
open PySem PySem.Spec PyProof.Rows L2
/-- what is known of the kinds on the right -/
structure NotSub (K : PySem.W.Frag) (C : Addr) : Prop where
  non : PySem.W.notFirst K C (.type "NoneType") = true
  int : PySem.W.notFirst K C (.type "int") = true
  tup : PySem.W.notFirst K C (.type "tuple") = true
  self : PySem.W.notFirst K C (.ref C) = true
theorem kt_of {K : PySem.W.Frag} {C : Addr} {N : String} (h1 : PySem.W.isClsIn K C = true) (h2 : PySem.W.typeIn K (.ref C) = some (.type "type")) (h3 : PySem.W.subIn K (.type N) (.ref C) = some false) : PySem.W.kitOne K (.type N) (.ref C) = some false := by
  unfold PySem.W.kitOne
  rw [if_neg (by simp)]
  show (if ((PySem.W.clsIn K C).isSome && PySem.W.typeIn K (.ref C) == some (.type "type")) = true then _ else _) = _
  have h4 : (PySem.W.clsIn K C).isSome = true := h1
  rw [h4, h2, if_pos (by simp), h3]
inductive RightD (C : Addr) : Dat → Prop where
  | non : RightD C .non
  | int (i : Int) : RightD C (.int i)
  | tup (ds : List Dat) : RightD C (.tup ds)
  | ins (fs : List (Str × Dat)) : RightD C (.ins C fs)
theorem o_ownA {K : PySem.W.Frag} {C : Addr} {G : List Sl → List Dat → Dat → List Dat → Prop} {E : XK} {k : Bool} {S : List Dat} {fs : List (Str × Dat)} {d : Dat} (N : NotSub K C) (hd : RightD C d) (hg : G [.d (.ins C fs), .d d] S (.bl k) S) :
    Op2 K (RwT.rOwnA K C (SpD K G) E) (.d (.ins C fs)) (.d d) S (.bl k) := fun B H as v w c r1 r2 Q q => by
  cases r1 with
  | ins h1 q1 =>
    have fin : ∀ tb, RwT.TyB K H w tb → PySem.W.notFirst K C tb = true → RwT.rOwnA K C (SpD K G) E (.ref _) w H Q := fun tb ty hn =>
      ⟨_, _, _, tb, rfl, c.ex _ _ h1, ty, hn, B, as, S, [.d (.ins C fs), .d d], _, S, c, .cons (Rep.ins h1 q1 : Rep K B _ (.ins C fs)) (.cons r2 .nil), hg, fun v B' H' c' e' r' => by cases r'; exact ⟨k, rfl, q _ B' H' c' e' (.bl _)⟩⟩
    cases hd with
    | non => cases r2; exact fin _ .non N.non
    | int i => cases r2; exact fin _ (.int i) N.int
    | tup ds => cases r2 with
      | tup h2 _ => exact fin _ (.tup (Evl.ex_t c.ex h2)) N.tup
    | ins gs => cases r2 with
      | ins h2 _ => exact fin _ (.ins (c.ex _ _ h2)) N.self
end RW

set_option Elab.async false
set_option linter.all false
set_option maxRecDepth 100000
set_option maxHeartbeats 4000000
namespace RW
open PySem PySem.Spec PyProof.Rows L2 StX
theorem RepSs.mapd {K : PySem.W.Frag} {B : Hp} {as : List Addr} : ∀ {vs : List V} {ds : List Dat}, Reps K B vs ds → RepSs K B as vs (ds.map Sl.d)
  | _, _, .nil => .nil
  | _, _, .cons h r => .cons h (RepSs.mapd r)
/-- *xs in a display, xs a tuple -/
theorem ea_star {K : PySem.W.Frag} {te : TE} {tA : TA} {env : Env1} {S S1 S2 : List Dat} {ds : List Dat} {xs : List Sl} (h : Ev K te env S (.d (.tup ds)) S1) (hr : EvA K tA env S1 xs S2) : EvA K (tStar K te tA) env S (ds.map Sl.d ++ xs) S2 := fun B H as σ c g Q q =>
  h B H as σ c g _ fun v B1 H1 c1 e1 r1 => by
    cases r1 with
    | tup h1 q1 => exact ⟨_, _, rfl, .inl (Evl.ex_t c1.ex h1), hr B1 H1 as σ c1 (g.mono e1.ex) _ fun vs B2 H2 c2 e2 r2 => q _ B2 H2 c2 (e1.trans e2) ((RepSs.mapd (q1.mono e2.ex)).append r2)⟩
end RW

set_option Elab.async false
set_option linter.all false
set_option maxRecDepth 100000
set_option maxHeartbeats 4000000
namespace RW
open PySem PySem.Spec PyProof.Rows L2
open Evl (Ex)
section
variable {K : PySem.W.Frag} {n : Nat} {te ta tb tc to ti tv : TE} {env env' : Env1} {S S1 S2 S3 : List Dat} {x y z : Sl} {d e : Dat} {ds es : List Dat} {P P' : Post} {t u : TS}
  {B B0 B1 B2 B' H H0 H1 H2 H' : Hp} {as as0 as1 : List Addr} {D : Ends} {σ : L2.St} {j k : Nat}
/-- (y, xs) with xs a new list that will be changed -/
theorem sp_pairVC (hv : Ev K ta env S y S1) (h : EvN K tb env S1 ds S2) (q : SP K n u ((env.set j (some y)).set k (some (.c S2.length))) (S2 ++ [.lst ds]) P) :
    SP K n (tSeq (tAsg (tTup (tCons ta (tCons tb tNil))) (gTup K 2 (gCons (gName j) (gCons (gName k) gNil)))) u) env S P := fun B0 H0 as0 Bk B H as σ hl f c g D m =>
  hv B H as σ c g _ fun w B1 H1 c1 e1 r1 => h B1 H1 as σ c1 (g.mono e1.ex) _ fun p B2 H2 vs c2 e2 hp hb h2 r2 => ⟨by show 2 ≤ sizeLine; decide, fun t ht => by
    have hpa : p ∉ as := hp.1
    have c3 := c2.new (o := .tup [w, .ref p]) ht
    have e3 := Evo.new (o := .tup [w, .ref p]) c2 ht
    have e03 := (e1.trans e2).trans e3
    have npt : p ≠ t := by rintro rfl; rw [ht] at h2; cases h2
    refine ⟨t, _, rfl, Evl.st_of upd_same, rfl, _, _, rfl, _, _, rfl, rfl, ?_⟩
    refine q B0 H0 as0 Bk _ _ (as ++ [p]) _ hl ((f.step e03).push (f.evo.oldN (e1.oldN hp.2))) (c3.push (by rw [upd_ne npt]; exact hb) hpa (.ofL (by rw [upd_ne npt]; exact h2) (r2.mono e3.ex))) ((((g.mono e03.ex).grow).set j (((r1.mono e2.ex).mono e3.ex).grow)).set (s := .c S2.length) k ?_) D m
    exact ⟨p, by rw [← c2.len]; simp, rfl⟩⟩
/-- xs[i] = e, last of its block -/
theorem sp_setitem1 {j : Nat} {iv : Int} (h : Ev K te env S (.d d) S1) (ho : Ev K to env S1 (.c k) S2) (hi : Ev K ti env S2 (.d (.int iv)) S3) (hs : S3[k]? = some (.lst ds)) (hj : ixN ds.length iv = some j) (q : P.nx env (S3.set k (.lst (ds.set j d)))) :
    SP K n (tAsg te (gSub to ti rSetL)) env S P := fun B0 H0 as0 Bk B H as σ hl f c g D m =>
  h B H as σ c g _ fun v B1 H1 c1 e1 r1 => ho B1 H1 as σ c1 (g.mono e1.ex) _ fun w B2 H2 c2 e2 r2 => hi B2 H2 as σ c2 (g.mono (e1.trans e2).ex) _ fun w3 B3 H3 c3 e3 r3 => by
    obtain ⟨p, hp, rfl⟩ := r2
    cases r3
    obtain ⟨vs, hv, rv⟩ := (c3.cells k p _ hp hs).2.lst
    have e03 := ((e1.trans e2).trans e3).trans (Evo.setc (o := .lst (vs.set j v)) (List.mem_of_getElem? hp) hv (fun _ z => nomatch z))
    exact ⟨p, vs, iv, j, rfl, rfl, hv, by rw [rv.length]; exact hj, m.nx _ _ B3 _ as σ (f.step e03) (c3.setc hp (show CellO K B3 (.lst _) (.lst _) from Reps.set j (Rep.mono (e2.trans e3).ex r1) rv)) (g.mono e03.ex) q⟩
theorem reps_ints : ∀ ns : List Int, Reps K B (ns.map V.int) (ns.map Dat.int)
  | [] => .nil
  | i :: r => .cons (.int i) (reps_ints r)
theorem reps_rg {a b : Int} : Reps K B (rgV a b) ((List.range (b - a).toNat).map fun i => Dat.int (a + (i : Nat))) := by
  have := reps_ints (K := K) (B := B) ((List.range (b - a).toNat).map fun i => a + ((i : Nat) : Int))
  rw [List.map_map, List.map_map] at this
  exact this
/-- list(range(m)) -/
theorem en_rg1 {m : Nat} (h : Ev K te env S (.d (.int m)) S1) (hm : m ≤ 1000) : EvN K (tLstRg (tRg1 te)) env S ((List.range m).map fun i => Dat.int (i : Nat)) S1 := fun B H as σ c g Q q =>
  h B H as σ c g _ fun v B1 H1 c1 e1 r1 => by
    cases r1
    have e : ((List.range m).map fun i => Dat.int (i : Nat)) = (List.range ((m : Int) - 0).toNat).map fun i => Dat.int (0 + (i : Nat)) := by
      rw [show ((m : Int) - 0).toNat = m by omega]
      exact List.map_congr_left fun i _ => by rw [Int.zero_add]
    rw [e] at q
    exact ⟨_, rfl, RgOk.of_le (by omega) (by omega) (by omega) (by omega), fun p hp => evn_new c c1 e1 hp reps_rg q⟩
/-- list(range(a, a + k)) -/
theorem en_rg2 {a k : Nat} {b : Int} (h : Ev K ta env S (.d (.int a)) S1) (hb : Ev K tb env S1 (.d (.int b)) S2) (e : b = (a : Int) + (k : Nat)) (hm : a + k ≤ 1000) : EvN K (tLstRg (tRg2 ta tb)) env S ((List.range' a k).map fun i => Dat.int (i : Nat)) S2 := fun B H as σ c g Q q =>
  h B H as σ c g _ fun v B1 H1 c1 e1 r1 => hb B1 H1 as σ c1 (g.mono e1.ex) _ fun w B2 H2 c2 e2 r2 => by
    cases r1
    cases r2
    have e : ((List.range' a k).map fun i => Dat.int (i : Nat)) = (List.range (b - (a : Int)).toNat).map fun i => Dat.int ((a : Int) + (i : Nat)) := by
      rw [show (b - (a : Int)).toNat = k by omega, List.range'_eq_map_range, List.map_map]
      exact List.map_congr_left fun i _ => by show Dat.int ((a + i : Nat) : Int) = _; rw [Int.natCast_add]
    rw [e] at q
    exact ⟨_, _, rfl, rfl, RgOk.of_le (by omega) (by omega) (by omega) (by omega), fun p hp => evn_new c c2 (e1.trans e2) hp reps_rg q⟩
end
end RW

set_option Elab.async false
set_option linter.all false
set_option maxRecDepth 100000
set_option maxHeartbeats 4000000
namespace RwS
open PySem PySem.Spec PyProof.Rows L2
/-! ### rows of integers, in Python's order -/
def lx : List Int → List Int → Bool
  | a :: r, b :: q => decide (a < b) || (decide (a = b) && lx r q)
  | _, _ => false
theorem lx_cons {a b : Int} {r q : List Int} : lx (a :: r) (b :: q) = true ↔ a < b ∨ (a = b ∧ lx r q = true) := by
  show (decide (a < b) || (decide (a = b) && lx r q)) = true ↔ _
  simp
theorem lx_eq {p : Int} {r q : List Int} : lx (p :: r) (p :: q) = lx r q := by
  show (decide (p < p) || (decide (p = p) && lx r q)) = _
  simp
theorem lx_ne {p u : Int} {r q : List Int} (e : p ≠ u) : lx (p :: r) (u :: q) = decide (p < u) := by
  show (decide (p < u) || (decide (p = u) && lx r q)) = _
  simp [e]
theorem lx_irr : ∀ r : List Int, lx r r = false
  | [] => rfl
  | a :: r => by
    cases h : lx (a :: r) (a :: r) with
    | false => rfl
    | true =>
      rcases lx_cons.mp h with z | ⟨_, z⟩
      · omega
      · rw [lx_irr r] at z; cases z
theorem lx_trans : ∀ {x y z : List Int}, lx x y = true → lx y z = true → lx x z = true
  | a :: r, b :: q, c :: t, h1, h2 => by
    rcases lx_cons.mp h1 with p | ⟨p, p'⟩ <;> rcases lx_cons.mp h2 with q' | ⟨q', q''⟩
    · exact lx_cons.mpr (.inl (by omega))
    · exact lx_cons.mpr (.inl (by omega))
    · exact lx_cons.mpr (.inl (by omega))
    · exact lx_cons.mpr (.inr ⟨by omega, lx_trans p' q''⟩)
  | [], _, _, h1, _ => by simp [lx] at h1
  | _ :: _, [], _, h1, _ => by simp [lx] at h1
  | _ :: _, _ :: _, [], _, h2 => by simp [lx] at h2
theorem lx_tri : ∀ {x y : List Int}, x.length = y.length → lx x y = true ∨ x = y ∨ lx y x = true
  | [], [], _ => .inr (.inl rfl)
  | a :: r, b :: q, h => by
    rcases Int.lt_trichotomy a b with z | z | z
    · exact .inl (lx_cons.mpr (.inl z))
    · subst z
      rcases lx_tri (x := r) (y := q) (by simpa using h) with w | w | w
      · exact .inl (lx_cons.mpr (.inr ⟨rfl, w⟩))
      · exact .inr (.inl (by rw [w]))
      · exact .inr (.inr (lx_cons.mpr (.inr ⟨rfl, w⟩)))
    · exact .inr (.inr (lx_cons.mpr (.inl z)))
  | [], _ :: _, h => by simp at h
  | _ :: _, [], h => by simp at h
def rk (L : List (List Int)) (x : List Int) : Nat := (L.filter fun y => lx y x).length
theorem filt_le {α : Type} (p q : α → Bool) : ∀ L : List α, (∀ y ∈ L, p y = true → q y = true) → (L.filter p).length ≤ (L.filter q).length
  | [], _ => Nat.le_refl _
  | a :: L, h => by
    have ih := filt_le p q L fun y hy => h y (List.mem_cons_of_mem _ hy)
    rw [List.filter_cons, List.filter_cons]
    cases hp : p a with
    | true => rw [h a List.mem_cons_self hp]; simpa using ih
    | false =>
      cases q a with
      | true => simp; omega
      | false => simpa using ih
theorem filt_lt {α : Type} (p q : α → Bool) : ∀ L : List α, (∀ y ∈ L, p y = true → q y = true) → (∃ y ∈ L, p y = false ∧ q y = true) → (L.filter p).length < (L.filter q).length
  | [], _, h => by obtain ⟨y, hy, _⟩ := h; cases hy
  | a :: L, h, he => by
    have hL : ∀ y ∈ L, p y = true → q y = true := fun y hy => h y (List.mem_cons_of_mem _ hy)
    have le := filt_le p q L hL
    rw [List.filter_cons, List.filter_cons]
    obtain ⟨y, hy, h1, h2⟩ := he
    rcases List.mem_cons.mp hy with rfl | hy
    · rw [h1, h2]; simp; omega
    · have ih := filt_lt p q L hL ⟨y, hy, h1, h2⟩
      cases hp : p a with
      | true => rw [h a List.mem_cons_self hp]; simpa using ih
      | false =>
        cases q a with
        | true => simp; omega
        | false => simpa using ih
theorem rk_lt {L : List (List Int)} {x y : List Int} (hx : x ∈ L) (hl : x.length = y.length) : lx x y = true ↔ rk L x < rk L y := by
  constructor
  · intro h
    exact filt_lt _ _ L (fun z _ hz => lx_trans hz h) ⟨x, hx, lx_irr x, h⟩
  · intro h
    rcases lx_tri hl with z | z | z
    · exact z
    · subst z; omega
    · have := filt_le (fun w => lx w y) (fun w => lx w x) L fun w _ hw => lx_trans hw z
      unfold rk at h
      omega
section
variable {prog : Program} {w : World} {A : Around} {E : Value → Shared → Prop} {s : Shared}
theorem lex_go {Q : Bool → Shared → Prop} {b : Bool} : ∀ {xs ys : List Value} {ns ms : List Int} (i : Nat), IntsAre xs ns → IntsAre ys ms → ns.length = ms.length → Q (lx ns ms) s → PySem.W.KatLex prog w A b false Q (xs.zip ys) i s
  | _, _, _, _, i, .nil, .nil, _, h => PySem.W.kat_nil h
  | _, _, _, _, i, .cons p t hx, .cons q u hy, hl, h => by
    refine PySem.W.kat_cons (wpAny_eqBool_int ?_)
    by_cases e : p = q
    · subst e
      rw [beq_self_eq_true]
      refine PySem.W.kat_yes (lex_go (i + 1) hx hy (by simpa using hl) ?_)
      rw [lx_eq] at h
      exact h
    · rw [show (p == q) = false from beq_eq_false_iff_ne.mpr e]
      refine PySem.W.kat_no (TS.oneLt_ints _ ?_)
      rw [lx_ne e] at h
      exact h
  | _, _, _, _, _, .nil, .cons _ _ _, hl, _ => by simp at hl
  | _, _, _, _, _, .cons _ _ _, .nil, hl, _ => by simp at hl
def Tups (h : Heap) (d : Nat) (vs : List Value) : Prop := ∀ v ∈ vs, ∃ ns, TS.TupInts h v ns ∧ ns.length = d
theorem Tups.keeps {h h' : Heap} {d : Nat} {vs : List Value} (x : Tups h d vs) (k : ∀ b o, h.get? b = some o → o.cls = .type "tuple" → h'.get? b = some o) : Tups h' d vs := fun v hv => by
  obtain ⟨ns, t, l⟩ := x v hv
  exact ⟨ns, t.keeps k, l⟩
theorem firsts {h : Heap} {d : Nat} (hd : 1 ≤ d) : ∀ vs : List Value, Tups h d vs → ∃ fs, PySem.W.KatTups h vs fs ∧ fs.length = vs.length ∧ ∀ f ∈ fs, ∃ n t, f = Value.int n t
  | [], _ => ⟨[], PySem.W.KatTups.nil, rfl, fun f hf => by cases hf⟩
  | v :: vs, x => by
    obtain ⟨fs, k, l, z⟩ := firsts hd vs fun u hu => x u (List.mem_cons_of_mem _ hu)
    obtain ⟨ns, ⟨a, xs, rfl, ⟨o, ho, hc, n, hdt⟩, i⟩, hl⟩ := x v List.mem_cons_self
    cases hx : xs.toList with
    | nil => rw [hx] at i; cases i; simp at hl; omega
    | cons u us =>
      rw [hx] at i
      cases i with
      | cons m t i =>
        refine ⟨.int m t :: fs, ?_, by simp [l], fun f hf => ?_⟩
        · exact ⟨⟨a, o, xs, n, rfl, ho, hc, hdt, by rw [← Array.getElem?_toList, hx]; rfl⟩, k⟩
        · rcases List.mem_cons.mp hf with rfl | hf
          · exact ⟨m, t, rfl⟩
          · exact z f hf
/-- what sorting is told of a list of tuples of d integers -/
theorem kind_go {d : Nat} {vs : List Value} (hd : 1 ≤ d) (h2 : 2 ≤ vs.length) (x : Tups s.heap d vs) (r : Value → Int)
    (hr : ∀ u ∈ vs, ∀ v ∈ vs, ∀ ns ms, TS.TupInts s.heap u ns → TS.TupInts s.heap v ms → (lx ns ms = true ↔ r u < r v))
    (Q : SortKind → Shared → Prop) (h : ∀ κ, TS.Cmp prog w A s κ (pairsOf vs) r → Q κ s) : wpAny (model prog w) A (keyKind' vs.toArray) Q E s := by
  obtain ⟨fs, k, hl, hi⟩ := firsts hd vs x
  refine PySem.W.kat_kind (T := .type "int") k (by omega) (fun f hf => ?_) rfl (h _ fun p q hp hq Q' E' hQ => ?_)
  · obtain ⟨n, t, rfl⟩ := hi f hf
    exact .of_pure rfl
  · rw [pairsOf_toList] at hp hq
    have mp := (mem_zip_self hp).2
    have mq := (mem_zip_self hq).2
    obtain ⟨ns, tp, lp⟩ := x p.1 mp
    obtain ⟨ms, tq, lq⟩ := x q.1 mq
    have hlt : decide (r p.1 < r q.1) = lx ns ms := by
      have := hr p.1 mp q.1 mq ns ms tp tq
      cases e : lx ns ms with
      | true => exact decide_eq_true (this.mp e)
      | false => exact decide_eq_false fun z => by rw [this.mpr z] at e; cases e
    rw [hlt] at hQ
    obtain ⟨a, xs, e1, ⟨o, ho, hc, n, hdt⟩, i1⟩ := tp
    obtain ⟨b, ys, e2, ⟨o', ho', hc', n', hdt'⟩, i2⟩ := tq
    rw [e1, e2]
    have hs : xs.size = ys.size := by
      have := i1.length
      have := i2.length
      simp at *
      omega
    refine PySem.W.kat_lt ho hdt ho' hdt' ?_
    rw [hs, decide_eq_false (Nat.lt_irrefl _)]
    exact lex_go 0 i1 i2 (by omega) hQ
/-- xs.sort() -/
theorem sort_go {a : Addr} {vs : List Value} {n d : Nat} {P : Fin → Shared → Prop} (ho : s.heap.get? a = some (seqObj "list" vs.toArray n)) (h64 : vs.length < 64) (hd : 1 ≤ d) (x : Tups s.heap d vs)
    (h : ∀ out : Array Value, out.toList.Perm vs → (∃ L : Value → List Int, (∀ v ∈ vs, TS.TupInts s.heap v (L v)) ∧ out.toList.Pairwise fun u v => lx (L v) (L u) = false) →
      P (.done (.ret .none)) { s with heap := sortedHeap s.heap a vs out }) : wpAny (model prog w) A (Builtin.«list.sort» ⟨[.ref a], []⟩) P E s := by
  have keep : ∀ b o, s.heap.get? b = some o → o.cls = .type "tuple" → (TS.midHeap s.heap a vs).get? b = some o := fun b o e hc => TS.midHeap_old (by
    rintro rfl
    rw [ho] at e
    cases e
    exact absurd (Value.type.inj hc) (by decide)) e
  have hT : ∀ v ∈ vs, TS.TupInts s.heap v (TS.intsOf s.heap v) ∧ (TS.intsOf s.heap v).length = d := fun v hv => by
    obtain ⟨ns, t, l⟩ := x v hv
    rw [t.ints]
    exact ⟨t, l⟩
  refine SK.plain_sort (r := fun v => (rk (vs.map (TS.intsOf s.heap)) (TS.intsOf s.heap v) : Int)) ho h64 (fun h2 Q hQ => kind_go hd h2 (x.keeps keep) _ (fun u hu v hv ns ms tu tv => ?_) Q hQ) fun ps out e1 e2 e3 => ?_
  · have e1 : TS.intsOf s.heap u = ns := by
      have := ((hT u hu).1.keeps keep).ints
      rw [← this, tu.ints]
    have e2 : TS.intsOf s.heap v = ms := by
      have := ((hT v hv).1.keeps keep).ints
      rw [← this, tv.ints]
    rw [← e1, ← e2, rk_lt (List.mem_map.mpr ⟨u, hu, rfl⟩) (by rw [(hT u hu).2, (hT v hv).2])]
    exact (Int.ofNat_lt).symm
  · obtain ⟨p, o⟩ := TS.out_rank (r := fun v => (rk (vs.map (TS.intsOf s.heap)) (TS.intsOf s.heap v) : Int)) e1 e2 e3
    refine h out p ⟨TS.intsOf s.heap, fun v hv => (hT v hv).1, o.imp_of_mem fun {u v} hu hv le => ?_⟩
    cases e : lx (TS.intsOf s.heap v) (TS.intsOf s.heap u) with
    | false => rfl
    | true =>
      have hu' := p.mem_iff.mp hu
      have hv' := p.mem_iff.mp hv
      have := (rk_lt (L := vs.map (TS.intsOf s.heap)) (List.mem_map.mpr ⟨v, hv', rfl⟩) (by rw [(hT u hu').2, (hT v hv').2])).mp e
      omega
end
end RwS

set_option Elab.async false
set_option linter.all false
set_option maxRecDepth 100000
set_option maxHeartbeats 4000000
namespace RwS
open PySem PySem.Spec PyProof.Rows L2
theorem ints_vals : ∀ {its : List Value} {ns : List Int}, Vals (ns.map V.int) its → IntsAre its ns
  | _, [], .nil => .nil
  | _, n :: ns, .cons r rr => by
    obtain ⟨t, rfl⟩ := r
    exact .cons n t (ints_vals rr)
def rSortedDT : List V → Hp → VK → Prop := fun vs H Q => ∃ (a : Addr) (kvs : List (List L2.Key × V)) (ks : List (List Int)) (d : Nat), vs = [V.ref a] ∧ H a = some (.dT kvs) ∧ kvs.map (·.1) = ks.map (fun k => k.map Sum.inl) ∧ 1 ≤ d ∧ (∀ k ∈ ks, k.length = d) ∧ ks.length < 64 ∧
  ∀ (L : List (Addr × List Int)) (p : Addr), (∀ q ∈ L, H q.1 = some (.tup (q.2.map V.int))) → (L.map (·.2)).Perm ks → L.Pairwise (fun x y => lx y.2 x.2 = false) → H p = none → Q (.ref p) (upd H p (.lst (L.map fun q => .ref q.1)))
theorem zip_keys {γ : Type} {R : (List L2.Key × V) → γ → Prop} (g : γ → Addr) {H : Hp} (hR : ∀ p q, R p q → H (g q) = some (.tup (p.1.map kV))) : ∀ {kvs : List (List L2.Key × V)} {xs : List γ} {ks : List (List Int)}, Paired R kvs xs → kvs.map (·.1) = ks.map (fun k => k.map Sum.inl) →
    ∃ L : List (Addr × List Int), L.map (·.1) = xs.map g ∧ L.map (·.2) = ks ∧ ∀ q ∈ L, H q.1 = some (.tup (q.2.map V.int))
  | _, _, [], .nil, _ => ⟨[], rfl, rfl, fun q hq => by cases hq⟩
  | _, _, _ :: _, .nil, e => by simp at e
  | _, _, [], .cons _ _, e => by simp at e
  | p :: kvs, x :: xs, k :: ks, .cons h hr, e => by
    have e1 : p.1 = k.map Sum.inl := (List.cons.inj e).1
    have e2 : kvs.map (·.1) = ks.map (fun k => k.map Sum.inl) := (List.cons.inj e).2
    obtain ⟨L, l1, l2, l3⟩ := zip_keys g hR hr e2
    refine ⟨(g x, k) :: L, by simp [l1], by simp [l2], fun q hq => ?_⟩
    rcases List.mem_cons.mp hq with rfl | hq
    · have := hR _ _ h
      rw [e1, List.map_map] at this
      exact this
    · exact l3 q hq
theorem perm_lift : ∀ {out : List Value} {L : List (Addr × List Int)}, out.Perm (L.map fun q => Value.ref q.1) → ∃ L' : List (Addr × List Int), out = L'.map (fun q => Value.ref q.1) ∧ L'.Perm L := fun {out L} h => by
  generalize e : (L.map fun q => Value.ref q.1) = M at h
  induction h generalizing L with
  | nil => exact ⟨[], rfl, by rw [List.map_eq_nil_iff.mp e]⟩
  | cons x h ih =>
    cases L with
    | nil => cases e
    | cons q L =>
      obtain ⟨e1, e2⟩ := List.cons.inj e
      obtain ⟨L', e3, e4⟩ := ih e2
      exact ⟨q :: L', by rw [← e1, e3]; rfl, e4.cons q⟩
  | swap x y l =>
    cases L with
    | nil => cases e
    | cons q L =>
      cases L with
      | nil => cases e
      | cons r L =>
        obtain ⟨e1, e2⟩ := List.cons.inj e
        obtain ⟨e2, e3⟩ := List.cons.inj e2
        exact ⟨r :: q :: L, by rw [← e1, ← e2, ← e3]; rfl, .swap q r L⟩
  | trans h1 h2 ih1 ih2 =>
    obtain ⟨L2, e1, e2⟩ := ih2 e
    obtain ⟨L1, e3, e4⟩ := ih1 e1.symm
    exact ⟨L1, e3, e4.trans e2⟩
theorem cr_sortedDT {X : Cx} (hc : X.calm = true) : CallR X (.builtin "sorted") rSortedDT := by
  intro pins s σ H vs us Q I r h
  obtain ⟨a, kvs, ks, d, rfl, ha, hks, hd, hlen, h64, q⟩ := h
  rw [Vals.ref1 r]
  obtain ⟨z, hs, xs, pr, o, es, ep, ho, hx, hdt, he, hn⟩ := I.hok a _ ha
  obtain ⟨L, l1, l2, l3⟩ := zip_keys (fun x => x.2.1) (H := H) (fun p x hp => hp.2.1) pr hks
  have hsz : es.size = xs.length := size_of_entries he
  have hLl : L.length = xs.length := by have := congrArg List.length l1; simpa using this
  have hLk : L.length = ks.length := by have := congrArg List.length l2; simpa using this
  refine Calls.call_function_entry kind_sorted plain_sorted entry_sorted (args_sorted1 (.ref a)) ?_
  refine id (wpAny_bind (wpAny_pure (wpAny_bind (PySem.W.kdu_collect (kdl_raw hs hx hdt) (I.ok.hd hc) ho (by rw [hsz, ← hLl, hLk, sizeLine_eq]; omega) fun h' tk acc hk hacc => ?_))))
  have hacc2 : acc.toList = L.map fun q => Value.ref q.1 := by
    have e1 : (L.map fun q => Value.ref q.1) = (xs.map fun x => x.2.1).map Value.ref := by
      rw [← l1, List.map_map]; rfl
    rw [e1, List.map_map]
    refine List.ext_getElem? fun j => ?_
    obtain ⟨ha1, ha2⟩ := hacc
    cases e : acc[j]? with
    | none =>
      have : acc.size ≤ j := Array.getElem?_eq_none_iff.mp e
      rw [Array.getElem?_toList, e, List.getElem?_eq_none]
      rw [List.length_map]; omega
    | some v =>
      obtain ⟨en, h1, h2⟩ := ha2 j v e
      rw [Array.getElem?_toList, e]
      have h3 : es.toList[j]? = some en := by rw [Array.getElem?_toList]; exact h1
      rw [he, List.getElem?_map] at h3
      rw [List.getElem?_map]
      cases e4 : xs[j]? with
      | none => rw [e4] at h3; cases h3
      | some x =>
        rw [e4] at h3
        cases h3
        rw [h2]; rfl
  have I1 : Inv X pins σ H { s with heap := h', toks := tk } := I.kept (t' := tk) hk
  have tups : Tups h' d acc.toList ∧ ∀ q ∈ L, TS.TupInts h' (.ref q.1) q.2 := by
    have key : ∀ q ∈ L, TS.TupInts h' (.ref q.1) q.2 := fun q hq => by
      obtain ⟨_, its, rv, p⟩ := I1.hok q.1 _ (l3 q hq)
      exact ⟨q.1, its.toArray, rfl, p, ints_vals rv⟩
    refine ⟨fun v hv => ?_, key⟩
    rw [hacc2] at hv
    obtain ⟨q, hq, rfl⟩ := List.mem_map.mp hv
    exact ⟨q.2, key q hq, hlen _ (by rw [← l2]; exact List.mem_map.mpr ⟨q, hq, rfl⟩)⟩
  have hal : acc.toList.length = L.length := by rw [hacc2, List.length_map]
  refine wpAny_bind (wpAny_newList ?_ (by rw [hal, hLk, sizeLine_eq]; omega))
  have hoL : (h'.push { cls := Value.type "list", data := Data.seq acc.toList.toArray }).get? h'.objs.size = some (seqObj "list" acc.toList.toArray 0) := Heap.get?_push_size _ rfl
  have hp1 : ∀ b o, h'.get? b = some o → (h'.push { cls := Value.type "list", data := Data.seq acc.toList.toArray }).get? b = some o := fun b o e => Heap.get?_push_of_some _ e
  refine wpAny_bind (wpAny_holding (wpAny_call_entry slot_list_sort ⟨_, hoL, rfl⟩ entry_list_sort (sort_go hoL (by rw [hal, hLk]; exact h64) hd (tups.1.keeps fun b o e _ => hp1 b o e) fun out pm po => ⟨.none, rfl, wpAny_pure ⟨.ref h'.objs.size, rfl, ?_⟩⟩) (args_list_sort (.ref h'.objs.size))))
  obtain ⟨L', e1, e2⟩ := perm_lift (hacc2 ▸ pm)
  have hn1 : H h'.objs.size = none := I1.hok.fresh (Nat.le_refl _)
  obtain ⟨ep', hg⟩ := sortedHeap_at (out := out) hoL
  have k : ∀ b o, h'.get? b = some o → (sortedHeap (h'.push { cls := Value.type "list", data := Data.seq acc.toList.toArray }) h'.objs.size acc.toList out).get? b = some o := fun b o e => by
    have hb := Heap.lt_size e
    rw [sortedHeap_old (Nat.ne_of_lt hb) (Nat.lt_of_lt_of_le hb (by rw [PyProof.Rows.size_push']; exact Nat.le_succ _))]
    exact hp1 b o e
  have hlen' : (L'.map fun q => V.ref q.1).length ≤ sizeLine := by rw [List.length_map, e2.length_eq, hLk, sizeLine_eq]; omega
  have hv : Vals (L'.map fun q => V.ref q.1) out.toList := by rw [e1]; exact vals_of_refs L'
  have J := Inv.call (ch := []) (d' := s.drawn) (t' := tk) I1 (Un.laid k (Nat.le_refl _) hn1) (HOk.laid (o := .lst (L'.map fun q => V.ref q.1)) I1.hok k (Nat.le_refl _) ⟨hlen', out.toList, ep', hv, hg⟩) I1.bare (fun x z => by cases z)
  refine ⟨.ref h'.objs.size, _, J, rfl, q L' _ (fun r hr => l3 r (e2.mem_iff.mp hr)) (by rw [← l2]; exact e2.map _) ?_ hn1⟩
  obtain ⟨g, g1, g2⟩ := po
  rw [e1] at g2
  refine (List.pairwise_map.mp g2).imp_of_mem fun {x y} hx hy hxy => ?_
  have gx : ∀ z ∈ L', g (.ref z.1) = z.2 := fun z hz => by
    have hz' := e2.mem_iff.mp hz
    have t1 := g1 (.ref z.1) (by rw [hacc2]; exact List.mem_map.mpr ⟨z, hz', rfl⟩)
    have t2 := (tups.2 z hz').keeps (h' := h'.push { cls := Value.type "list", data := Data.seq acc.toList.toArray }) fun b o e _ => hp1 b o e
    exact t1.ints.symm.trans t2.ints
  rw [gx x hx, gx y hy] at hxy
  exact hxy
end RwS

set_option Elab.async false
set_option linter.all false
set_option maxRecDepth 100000
set_option maxHeartbeats 4000000
namespace RwS
open PySem PySem.Spec PyProof.Rows L2 CwR
/-! ### where some object has been made before: text.replace -/
def PTt (X : Cx) (e : Expr) (t : TT) : Prop := ∀ (pins : List (Addr × Obj)) (s : Shared) (σ : L2.St) (H : Hp) (Q : Bool → Hp → Prop), 1 ≤ s.toks → Inv X pins σ H s → t σ H Q → wpAny (model X.prog X.w) X.A (PySem.isTrue e X.env (eval e X.env)) (TP X pins σ Q) X.xe s
def PTg (X : Cx) (e : Expr) (t : TT) : Prop := ∀ (pins : List (Addr × Obj)) (s : Shared) (σ : L2.St) (H : Hp) (Q : Bool → Hp → Prop), Inv X pins σ H s → t σ H Q → wpAny (model X.prog X.w) X.A (PySem.isTrue e X.env (eval e X.env)) (fun b s' => TP X pins σ Q b s' ∧ 1 ≤ s'.toks) X.xe s
def PEg (X : Cx) (e : Expr) (t : TE) : Prop := ∀ (pins : List (Addr × Obj)) (s : Shared) (σ : L2.St) (H : Hp) (Q : VK), Inv X pins σ H s → t σ H Q → wpAny (model X.prog X.w) X.A (eval e X.env) (fun v s' => EP X pins σ Q v s' ∧ 1 ≤ s'.toks) X.xe s
section
variable {X : Cx} {a b e o : Expr} {ta tb : TT} {te to : TE} {pos : Pos}
theorem petT_bm0 {name : Str} {apos cpos : Pos} {T id : String} {r : V → List V → Hp → VK → Prop} (pa : PlainAttrs T) (slot : Slot T name id) (hty : typeOf (.builtin id) = pure (.type "method_descriptor")) (hm : MtR X id r) (ho : PET X o to)
    (hbase : attributeBase o name X.env (eval o X.env) = eval o X.env := by rfl) (hline : (apos.endLine == cpos.line) = true := by rfl) : PET X ((o.Attribute name apos).Call [] [] cpos) (tBM0 X.K T r to) := fun pins s σ H Q h0 I h =>
  wpAny_Call_method0_late hbase hline (thn (ho pins s σ H (fun x H1 => tyV X.K T x H1 ∧ r x [] H1 Q) h0 I h) fun v s1 ⟨x, H1, I1, r1, ty, q1⟩ => by
    obtain ⟨h1, h2⟩ := tyV_is I1 r1 ty
    exact ⟨T, id, pa, slot, hty, h1, h2, Calls.callWith_builtin rfl (PySem.evalArgs_none (hm pins s1 σ H1 x [] v [] Q I1 r1 .nil q1))⟩)
theorem ptT_tru (ha : PET X a te) (he : ∀ whole, PySem.isTrue a X.env whole = (do let v ← whole; standAt a.pos; holding [v] (truthy v)) := by intro _; rfl) : PTt X a (RW.tTru X.K te) := fun pins s σ H Q h0 I h =>
  isTrue_plain (thn (ha pins s σ H (fun x H' => ∃ k, TruV X.K x H' k ∧ Q k H') h0 I h) fun v s1 ⟨x, H1, I1, r1, q1⟩ => tru_ok pins s1 σ H1 x v Q I1 r1 q1) (he _)
theorem ptT_not (ha : PTt X a ta) : PTt X (.UnaryOp .Not a pos) (tNot ta) := fun pins s σ H Q h0 I h => isTrue_not (ha pins s σ H (fun c H1 => Q (!c) H1) h0 I h)
theorem ptT_or (ha : PT X a ta) (hb : PTt X b tb) : PTt X (.BoolOp .Or [a, b] pos) (tOr ta tb) := fun pins s σ H Q h0 I h =>
  isTrue_or (wpAny_mono (wpAny_toks (ha.run pins s σ H _ I h)) (fun c s1 ⟨hk, H1, I1, q1⟩ => by
    cases c with
    | true => exact ⟨H1, I1, q1⟩
    | false =>
      refine isTrue_or (thn (hb pins s1 σ H1 Q (Nat.le_trans h0 hk) I1 q1) fun c s2 z => ?_)
      cases c with
      | true => exact z
      | false => exact isTrue_or_nil z) fun _ _ z => z.2)
/-- len(x), x a text: an integer is made -/
def rLenS : List V → Hp → VK → Prop := fun xs H Q => ∃ z, xs = [V.str z] ∧ z.length ≤ sizeLine ∧ Q (.int z.length) H
theorem call_lenS {X : Cx} : CallR X (.builtin "len") rLenS := call_len_str
theorem peg_len {p : Pos} {tA : TA} (hg : Gl X "len") (hm : X.mg "len" = none) (ha : PA X [e] tA) (hs : starEach [e] X.env = (false, eval e X.env) :: starEach [] X.env := by rfl) (hpl : ((backTo pos (starEach [] X.env)).any fun x => x.1) = false := by rfl) :
    PEg X (.Call (.Name "len" p) [e] [] pos) (tCB rLenS tA) := fun pins s σ H Q I h => by
  refine wpAny_Call_Name_kw (ld_blt I hg hm boot_len (callWith_builtin1 (thn (ha.run pos pins s σ H (fun vs H1 => rLenS vs H1 Q) I h) fun us s1 ⟨vs, H1, I1, r1, z, e1, hz, q1⟩ => ?_) hs hpl) (by decide) (by decide))
  subst e1
  cases r1 with
  | cons r1 rr =>
    cases rr
    obtain ⟨t, rfl⟩ := r1
    exact len_str (by have := line63; omega) ⟨⟨.int z.length, H1, I1.tok _, ⟨_, rfl⟩, q1⟩, by simp⟩
theorem ptg_cmp {op : CmpOp} {r : R2} {ta tb : TE} (ho : OpR X (compareOp op) r) (ha : PEg X a ta) (hb : PE X b tb) (hm : behindInMarks op b = false) : PTg X (.Compare a [op] [b] pos) (tTest (tOp r ta tb)) := fun pins s σ H Q I h =>
  wpAny_isTrue_Compare1 (thn (ha pins s σ H _ I h) fun v s1 ⟨⟨x, H1, I1, r1, q1⟩, h1⟩ =>
    wpAny_mono (wpAny_toks (hb.run pins s1 σ H1 _ I1 q1)) (fun u s2 ⟨k2, y, H2, I2, r2, q2⟩ =>
      wpAny_mono (wpAny_toks (ho pins s2 σ H2 x y v u _ I2 r1 r2 q2)) (fun c s3 ⟨k3, z, H3, I3, r3, k, e, q3⟩ => by
        subst e
        cases (show c = Value.bool k from r3)
        exact wpAny_truthy_bool ⟨⟨H3, I3, q3⟩, Nat.le_trans h1 (Nat.le_trans k2 k3)⟩) fun _ _ z => z.2) fun _ _ z => z.2) hm
/-- the first is false -/
def tOrF (ta tb : TT) : TT := fun σ H Q => ta σ H fun b H1 => b = false ∧ tb σ H1 Q
theorem ptg_or (ha : PT X a ta) (hb : PTg X b tb) : PTg X (.BoolOp .Or [a, b] pos) (tOrF ta tb) := fun pins s σ H Q I h =>
  isTrue_or (thn (ha.run pins s σ H _ I h) fun c s1 ⟨H1, I1, ec, q1⟩ => by
    subst ec
    refine isTrue_or (thn (hb pins s1 σ H1 Q I1 q1) fun c s2 z => ?_)
    cases c with
    | true => exact z
    | false => exact isTrue_or_nil z)
/-- if test: raise; and what follows, with a token known -/
def tGuard (ta : TT) (t2 : TS) : TS := fun D σ H => ta σ H fun b H1 => b = false ∧ t2 D σ H1
def tGuard1 (ta : TT) : TS := fun D σ H => ta σ H fun b H1 => b = false ∧ D.nx σ H1
theorem pss_guard {t2 : TS} {bd : List Stmt} {rest : List Stmt} (ha : PTg X a ta) (hr : PSsT X rest t2) : PSs X (.If a bd [] pos :: rest) (tGuard ta t2) := ⟨fun pins s σ H D I h =>
  wpAny_execs_cons (wpAny_If (thn (ha pins s σ H _ I h) fun c s1 ⟨⟨H1, I1, ec, q1⟩, h1⟩ => by
    subst ec
    exact wpAny_execs_nil (hr pins s1 σ H1 D h1 I1 q1)))⟩
theorem psst_guard {bd : List Stmt} (ha : PTt X a ta) : PSsT X [.If a bd [] pos] (tGuard1 ta) := fun pins s σ H D h0 I h =>
  wpAny_execs_cons (wpAny_If (thn (ha pins s σ H _ h0 I h) fun c s1 ⟨H1, I1, ec, q1⟩ => by
    subst ec
    exact wpAny_execs_nil (wpAny_execs_nil ⟨σ, H1, I1, q1⟩)))
end
end RwS

set_option Elab.async false
set_option linter.all false
set_option maxRecDepth 100000
set_option maxHeartbeats 4000000
namespace RW
open PySem PySem.Spec PyProof.Rows L2
open Evl (Ex)
section
variable {K : PySem.W.Frag} {n : Nat} {te ta tb tc to ti tv : TE} {tt tu : TT} {tA tR : TA} {env env' : Env1} {S S1 S2 S3 : List Dat} {x y z : Sl} {d e : Dat} {ds es : List Dat} {r r' : R2} {P P' : Post} {t u : TS}
  {B B0 B1 B2 B' H H0 H1 H2 H' : Hp} {as as0 as1 : List Addr} {D : Ends} {σ : L2.St} {i k : Nat} {a b c : Bool} {p q : Str}
/-! ### texts -/
theorem cd_lenT (hl : p.length ≤ sizeLine) : CallD K RwS.rLenS [.d (.str p)] S (.int p.length) S := fun B H as vs c r Q q => by
  cases r with
  | cons r1 rr =>
    cases rr; cases r1
    exact ⟨p, rfl, hl, q _ B H c Evo.refl (.int _)⟩
def rIntS : List V → Hp → VK → Prop := fun xs H Q => ∃ a n, xs = [V.str a] ∧ intText? a = some n ∧ a.length ≤ 640 ∧ Q (.int n) H
theorem call_intS {X : Cx} : CallR X (.type "int") rIntS := call_int_str
theorem cd_intS {j : Int} (h : intText? p = some j) (hl : p.length ≤ 640) : CallD K rIntS [.d (.str p)] S (.int j) S := fun B H as vs c r Q q => by
  cases r with
  | cons r1 rr =>
    cases rr; cases r1
    exact ⟨p, j, rfl, h, hl, q _ B H c Evo.refl (.int _)⟩
/-- x.isdigit() and the like -/
theorem ev_bm0S {f : Str → V} {C : Str → Prop} (h : Ev K to env S (.d (.str p)) S1) (hc : C p) (hd : ∀ B : Hp, Rep K B (f p) d) : Ev K (tBM0 K "str" (fun x xs H Q => ∃ a, x = V.str a ∧ xs = [] ∧ C a ∧ Q (f a) H) to) env S (.d d) S1 := fun B H as σ c g Q q =>
  h B H as σ c g _ fun v B1 H1 c1 e1 r1 => by
    cases r1
    exact ⟨rfl, p, rfl, rfl, hc, q _ B1 H1 c1 e1 (hd B1)⟩
theorem ev_startsS (h : Ev K to env S (.d (.str p)) S1) (hx : EvA K tA env S1 [.d (.str q)] S2) : Ev K (tBM K "str" (fun x xs H Q => ∃ a b, x = V.str a ∧ xs = [V.str b] ∧ Q (.bl (Txt.startswith a b)) H) to tA) env S (.d (.bl (Txt.startswith p q))) S2 := fun B H as σ c g Q k =>
  h B H as σ c g _ fun v B1 H1 c1 e1 r1 => by
    cases r1
    refine ⟨rfl, hx B1 H1 as σ c1 (g.mono e1.ex) _ fun vs B2 H2 c2 e2 r2 => ?_⟩
    cases r2 with
    | cons r2 rr =>
      cases rr; cases r2
      exact ⟨p, q, rfl, rfl, k _ B2 H2 c2 (e1.trans e2) (.bl _)⟩
theorem reps_strs : ∀ ys : List Str, Reps K B (ys.map V.str) (ys.map Dat.str)
  | [] => .nil
  | i :: r => .cons (.str i) (reps_strs r)
theorem en_split (h : Ev K to env S (.d (.str p)) S1) (hx : EvA K tA env S1 [.d (.str q)] S2) (h1 : (q.length == 0) = false) (h2 : p.length + 2 ≤ sizeLine) :
    EvN K (tBM K "str" (fun x xs H Q => ∃ a b, x = V.str a ∧ xs = [V.str b] ∧ (b.length == 0) = false ∧ a.length + 2 ≤ sizeLine ∧ rNewStrs (Txt.split a b) H Q) to tA) env S ((Txt.split p q).map Dat.str) S2 := fun B H as σ c g Q k =>
  h B H as σ c g _ fun v B1 H1 c1 e1 r1 => by
    cases r1
    refine ⟨rfl, hx B1 H1 as σ c1 (g.mono e1.ex) _ fun vs B2 H2 c2 e2 r2 => ?_⟩
    cases r2 with
    | cons r2 rr =>
      cases rr; cases r2
      exact ⟨p, q, rfl, rfl, h1, h2, fun w hw => evn_new c c2 (e1.trans e2) hw (reps_strs _) k⟩
theorem ev_slS {tl th : TO} {lo hi : Option Int} (h : Ev K te env S (.d (.str p)) S1) (hl : EvO K tl env S1 lo S2) (hh : EvO K th env S2 hi S3) (hz : p.length ≤ sizeLine) : Ev K (tSl rSlS te tl th) env S (.d (.str (cutS p lo hi))) S3 := fun B H as σ c g Q q =>
  h B H as σ c g _ fun v B1 H1 c1 e1 r1 => hl B1 H1 as σ c1 (g.mono e1.ex) _ fun B2 H2 c2 e2 => hh B2 H2 as σ c2 (g.mono (e1.trans e2).ex) _ fun B3 H3 c3 e3 => by
    cases r1
    exact ⟨p, rfl, hz, q _ B3 H3 c3 ((e1.trans e2).trans e3) (.str _)⟩
theorem o_eqS : Op2 K rEq (.d (.str p)) (.d (.str q)) S (.bl (decide (p = q))) := fun B H as v w c r1 r2 Q k => by
  cases r1; cases r2
  have e : decide (V.str p = V.str q) = decide (p = q) := by
    by_cases h : p = q
    · subst h; simp
    · simp [h]
  refine ⟨rfl, ?_⟩
  rw [e]
  exact k _ B H c Evo.refl (.bl _)
theorem o_neS : Op2 K rNe (.d (.str p)) (.d (.str q)) S (.bl (!decide (p = q))) := fun B H as v w c r1 r2 Q k => by
  cases r1; cases r2
  have e : decide (V.str p = V.str q) = decide (p = q) := by
    by_cases h : p = q
    · subst h; simp
    · simp [h]
  refine ⟨rfl, ?_⟩
  rw [e]
  exact k _ B H c Evo.refl (.bl _)
/-- None in a list of integers -/
theorem o_inN {ns : List Int} (h : Seq S x (ns.map Dat.int)) : Op2 K (rIn K false) (.d .non) x S (.bl false) := fun B H as v w c r1 r2 Q k => by
  cases r1
  obtain ⟨a, kk, vs, rfl, hq, hr⟩ := h.read c r2
  have e := hr.ints
  subst e
  refine ⟨a, _, rfl, sq_or hq, rfl, ?_, ?_⟩
  · rw [List.all_eq_true]
    intro v hv
    obtain ⟨j, _, rfl⟩ := List.mem_map.mp hv
    rfl
  · have : inV V.non (ns.map V.int) = false := by
      unfold inV
      rw [List.any_eq_false]
      intro v hv
      obtain ⟨j, _, rfl⟩ := List.mem_map.mp hv
      exact fun z => nomatch z
    rw [this]
    exact k _ B H c Evo.refl (.bl _)
/-- x.replace(..) -/
theorem ev_repl {y z : Str} (h : Ev K to env S (.d (.str p)) S1) (hl : p.length + (p.length + 1) * z.length ≤ 16777216) : Ev K (CwR.tReplC to y z) env S (.d (.str (Txt.replace p y z))) S1 := fun B H as σ c g Q q =>
  h B H as σ c g _ fun v B1 H1 c1 e1 r1 => by
    cases r1
    exact ⟨p, rfl, hl, q _ B1 H1 c1 e1 (.str _)⟩
theorem sp_guard (h : EvT K tt env S false S1) (k : SP K n u env S1 P) : SP K n (RwS.tGuard tt u) env S P := fun B0 H0 as0 Bk B H as σ hl f c g D m =>
  h B H as σ c g _ fun B1 H1 c1 e1 => ⟨rfl, k B0 H0 as0 Bk B1 H1 as σ hl (f.step e1) c1 (g.mono e1.ex) D m⟩
theorem sp_guard1 (h : EvT K tt env S false S1) (k : P.nx env S1) : SP K n (RwS.tGuard1 tt) env S P := fun B0 H0 as0 Bk B H as σ hl f c g D m =>
  h B H as σ c g _ fun B1 H1 c1 e1 => ⟨rfl, m.nx env S1 B1 H1 as σ (f.step e1) c1 (g.mono e1.ex) k⟩
theorem et_orF (h1 : EvT K tt env S false S1) (h2 : EvT K tu env S1 b S2) : EvT K (RwS.tOrF tt tu) env S b S2 := fun B H as σ c g Q q =>
  h1 B H as σ c g _ fun B1 H1 c1 e1 => ⟨rfl, h2 B1 H1 as σ c1 (g.mono e1.ex) Q fun B2 H2 c2 e2 => q B2 H2 c2 (e1.trans e2)⟩
/-! ### rows, one below the other -/
theorem leT_lex : ∀ (ns ms : List Int) (j m : Nat), j + m = ns.length → ns.length = ms.length → Ob.lexAt (fun j => decide (ns.getD j 0 = ms.getD j 0)) (fun j => decide (ns.getD j 0 ≤ ms.getD j 0)) (decide (ns.length ≤ ms.length)) j m = !RwS.lx (ms.drop j) (ns.drop j)
  | ns, ms, j, 0, h1, h2 => by
    rw [show j = ns.length by omega, List.drop_length]
    rw [show ms.drop ns.length = [] by rw [h2, List.drop_length]]
    show decide (ns.length ≤ ms.length) = !RwS.lx [] []
    rw [decide_eq_true (by omega)]; rfl
  | ns, ms, j, m + 1, h1, h2 => by
    have hj : j < ns.length := by omega
    have hj2 : j < ms.length := by omega
    have ih := leT_lex ns ms (j + 1) m (by omega) h2
    have e1 : ns.drop j = ns.getD j 0 :: ns.drop (j + 1) := by
      rw [List.drop_eq_getElem_cons hj]; simp [hj]
    have e2 : ms.drop j = ms.getD j 0 :: ms.drop (j + 1) := by
      rw [List.drop_eq_getElem_cons hj2]; simp [hj2]
    rw [e1, e2]
    show (if decide (ns.getD j 0 = ms.getD j 0) = true then Ob.lexAt _ _ _ (j + 1) m else decide (ns.getD j 0 ≤ ms.getD j 0)) = _
    by_cases h : ns.getD j 0 = ms.getD j 0
    · rw [if_pos (by simpa using h), ih, h, RwS.lx_eq]
    · rw [if_neg (by simpa using h), RwS.lx_ne (fun z => h z.symm)]
      by_cases h' : ns.getD j 0 ≤ ms.getD j 0
      · rw [decide_eq_true h', decide_eq_false (by omega)]; rfl
      · rw [decide_eq_false h', decide_eq_true (by omega)]; rfl
theorem reps_tup {v : V} {ns : List Int} (c : Ok K B H as S) (r : Rep K B v (.tup (ns.map Dat.int))) : ∃ a, v = .ref a ∧ SqT K H a (ns.map V.int) := by
  cases r with
  | tup h1 r1 =>
    have e := r1.ints
    subst e
    exact ⟨_, rfl, Evl.ex_t c.ex h1⟩
theorem o_leR {ns ms : List Int} (h : ns.length = ms.length) : Op2 K (rLeT K) (.d (.tup (ns.map Dat.int))) (.d (.tup (ms.map Dat.int))) S (.bl (!RwS.lx ms ns)) := fun B H as v w c r1 r2 Q k => by
  obtain ⟨a, rfl, h1⟩ := reps_tup c r1
  obtain ⟨b, rfl, h2⟩ := reps_tup c r2
  refine ⟨a, b, ns, ms, rfl, rfl, h1, h2, ?_⟩
  have := leT_lex ns ms 0 (min ns.length ms.length) (by omega) h
  rw [List.drop_zero, List.drop_zero] at this
  rw [this]
  exact k _ B H c Evo.refl (.bl _)
end
end RW

set_option Elab.async false
set_option linter.all false
set_option maxRecDepth 100000
set_option maxHeartbeats 4000000
namespace RW
open PySem PySem.Spec PyProof.Rows L2
open Evl (Ex)
section
variable {K : PySem.W.Frag} {n : Nat} {te ta tb tc to ti tv : TE} {tt tu : TT} {tA tR : TA} {env env' : Env1} {S S1 S2 S3 : List Dat} {x y z : Sl} {d e : Dat} {ds es : List Dat} {r r' : R2} {P P' : Post} {t u : TS}
  {B B0 B1 B2 B' H H0 H1 H2 H' : Hp} {as as0 as1 : List Addr} {D : Ends} {σ : L2.St} {i k : Nat} {a b c : Bool} {p q : Str}
theorem RepF.none {f : Str} : ∀ {vs : List (Str × V)} {fs : List (Str × Dat)}, RepF K B vs fs → fs.lookup f = none → vs.lookup f = none
  | _, _, .nil, _ => rfl
  | _, _, .cons (f := g) (vs := vs) (ds := ds) h r, e => by
    by_cases q : (f == g) = true
    · simp only [List.lookup, q] at e; cases e
    · have q' : (f == g) = false := by simpa using q
      simp only [List.lookup, q'] at e ⊢
      exact RepF.none r e
  | _, _, .cel (f := g) r, e => by
    by_cases q : (f == g) = true
    · simp only [List.lookup, q] at e; cases e
    · have q' : (f == g) = false := by simpa using q
      simp only [List.lookup, q'] at e ⊢
      exact RepF.none r e
/-- o.m(..), o an instance that is changed -/
theorem ev_meth {C : Addr} {m : Str} {fs : List (Str × Dat)} {G : List Sl → List Dat → Dat → List Dat → Prop} {E : XK} {ss : List Sl} (h : Ev K ta env S (.c k) S1) (hs : S1[k]? = some (.ins C fs)) (hm : fs.lookup m = none) (hx : EvA K tA env S1 ss S2) (hg : G (.c k :: ss) S2 d S3) :
    Ev K (tMeth C m (SpD K G) [] E ta tA) env S (.d d) S3 := fun B H as σ c g Q q =>
  h B H as σ c g _ fun v B1 H1 c1 e1 r1 => by
    obtain ⟨w, hw, rfl⟩ := r1
    obtain ⟨dx, vs, hv, rv⟩ := (c1.cells k w _ hw hs).2.ins
    refine ⟨w, dx, vs, rfl, hv, RepF.none rv hm, hx B1 H1 as σ c1 (g.mono e1.ex) _ fun us B2 H2 c2 e2 r2 => ?_⟩
    exact ⟨B2, as, S2, .c k :: ss, d, S3, c2, by rw [List.append_nil]; exact .cons ⟨w, hw, rfl⟩ r2, hg, fun v B3 H3 c3 e3 r3 => q v B3 H3 c3 ((e1.trans e2).trans e3) r3⟩
/-- x = C(..), an instance that will be changed -/
theorem sp_setMk {C : Addr} {G : List Sl → List Dat → Dat → List Dat → Prop} {ss : List Sl} {E : XK} {fs : List (Str × Dat)} (h : EvA K tA env S ss S1) (hg : G (.c S1.length :: ss) (S1 ++ [.ins C []]) .non (S2 ++ [.ins C fs])) (hl : S2.length = S1.length)
    (q : SP K n u (env.set i (some (.c S1.length))) (S2 ++ [.ins C fs]) P) : SP K n (tSeq (tAsg (tMake C (SpD K G) [] E tA) (gName i)) u) env S P := fun B0 H0 as0 Bk B H as σ hl0 f0 c g D m =>
  h B H as σ c g _ fun vs B1 H1 c1 e1 r1 x dx hx hdx hne => by
    have hB := c1.Bnone hx
    have hxa := c1.fresh hx
    have hdB := c1.Bnone hdx
    have hda := c1.fresh hdx
    have c2 : Ok K B1 (upd (upd H1 dx (.own x)) x (.ins C dx [])) as S1 := (c1.other hdB hda).other hB hxa
    have e2 : Evo B1 H1 as B1 (upd (upd H1 dx (.own x)) x (.ins C dx [])) := (Evo.refl.other (.of hdx)).other (.of hx)
    have c3 : Ok K B1 (upd (upd H1 dx (.own x)) x (.ins C dx [])) (as ++ [x]) (S1 ++ [.ins C []]) := c2.push hB hxa (CellAt.ofI upd_same .nil) (fun _ _ _ _ _ _ e q _ => by cases e; cases q)
    have grow : ∀ {vs : List V} {ss : List Sl}, RepSs K B1 as vs ss → RepSs K B1 (as ++ [x]) vs ss := by
      intro vs ss h
      induction h with
      | nil => exact .nil
      | cons h _ ih => exact .cons h.grow ih
    have r3 : RepSs K B1 (as ++ [x]) (.ref x :: (vs ++ [])) (.c S1.length :: ss) := by
      refine .cons ⟨x, by rw [← c1.len]; simp, rfl⟩ ?_
      rw [List.append_nil]
      exact grow r1
    refine ⟨B1, as ++ [x], _, _, _, _, c3, r3, hg, fun v B4 H4 c4 e4 r4 => ⟨by cases r4; rfl, ?_⟩⟩
    have f3 : Fr B0 H0 as0 Bk B1 _ (as ++ [x]) := ((f0.step e1).step e2).push ((f0.step e1).evo.old hx)
    exact q B0 H0 as0 Bk B4 H4 (as ++ [x]) _ hl0 (f3.step e4) c4 ((((g.mono e1.ex).grow).mono e4.ex).set i ⟨x, by rw [← c1.len]; simp, rfl⟩) D m
/-- o.f += e, of a field that is a number -/
theorem sp_fldaug {C : Addr} {fs : List (Str × Dat)} {f : Str} {p q : Int} (ho : Ev K ta env S (.c k) S1) (hs : S1[k]? = some (.ins C fs)) (cl : Cls K C) (na : NoAttr K C f) (hf : fs.lookup f = some (.int p)) (h : Ev K tv env S1 (.d (.int q)) S1) (hl : fs.length < 1000)
    (kk : SP K n u env (S1.set k (.ins C (putFD f (.int (p + q)) fs))) P) : SP K n (tSeq (sFldAug K ta tv rAdd f) u) env S P := fun B0 H0 as0 Bk B H as σ hl0 f0 c g D m =>
  ho B H as σ c g _ fun w B1 H1 c1 e1 r1 => by
    obtain ⟨x, hx, rfl⟩ := r1
    obtain ⟨dx, vs, hv, rv⟩ := (c1.cells k x _ hx hs).2.ins
    obtain ⟨v, hv1, rv1⟩ := rv.get hf (fun _ z => nomatch z)
    cases rv1
    refine ⟨x, C, dx, vs, .int p, rfl, hv, cl, na, hv1, h B1 H1 as σ c1 (g.mono e1.ex) _ fun y B2 H2 c2 e2 r2 => ?_⟩
    cases r2
    obtain ⟨dx2, vs2, hv2, rv2⟩ := (c2.cells k x _ hx hs).2.ins
    have e03 := (e1.trans e2).trans (Evo.setc (o := .ins C dx2 (putF f (.int (p + q)) vs2)) (List.mem_of_getElem? hx) hv2 (fun _ z => nomatch z))
    exact ⟨p, q, rfl, rfl, dx2, vs2, hv2, by rw [rv2.length]; exact hl, kk B0 H0 as0 Bk B2 _ as σ hl0 (f0.step e03) (c2.setc hx (show CellO K B2 (.ins C dx2 _) (.ins C _) from ⟨rfl, RepF.put (.int _) rv2⟩) (c2.lkput hx hs hv2 (.int _))) (g.mono e03.ex) D m⟩
theorem sp_fldaug1 {C : Addr} {fs : List (Str × Dat)} {f : Str} {p q : Int} (ho : Ev K ta env S (.c k) S1) (hs : S1[k]? = some (.ins C fs)) (cl : Cls K C) (na : NoAttr K C f) (hf : fs.lookup f = some (.int p)) (h : Ev K tv env S1 (.d (.int q)) S1) (hl : fs.length < 1000)
    (kk : P.nx env (S1.set k (.ins C (putFD f (.int (p + q)) fs)))) : SP K n (sFldAug K ta tv rAdd f) env S P := fun B0 H0 as0 Bk B H as σ hl0 f0 c g D m =>
  ho B H as σ c g _ fun w B1 H1 c1 e1 r1 => by
    obtain ⟨x, hx, rfl⟩ := r1
    obtain ⟨dx, vs, hv, rv⟩ := (c1.cells k x _ hx hs).2.ins
    obtain ⟨v, hv1, rv1⟩ := rv.get hf (fun _ z => nomatch z)
    cases rv1
    refine ⟨x, C, dx, vs, .int p, rfl, hv, cl, na, hv1, h B1 H1 as σ c1 (g.mono e1.ex) _ fun y B2 H2 c2 e2 r2 => ?_⟩
    cases r2
    obtain ⟨dx2, vs2, hv2, rv2⟩ := (c2.cells k x _ hx hs).2.ins
    have e03 := (e1.trans e2).trans (Evo.setc (o := .ins C dx2 (putF f (.int (p + q)) vs2)) (List.mem_of_getElem? hx) hv2 (fun _ z => nomatch z))
    exact ⟨p, q, rfl, rfl, dx2, vs2, hv2, by rw [rv2.length]; exact hl, m.nx _ _ B2 _ as σ (f0.step e03) (c2.setc hx (show CellO K B2 (.ins C dx2 _) (.ins C _) from ⟨rfl, RepF.put (.int _) rv2⟩) (c2.lkput hx hs hv2 (.int _))) (g.mono e03.ex) kk⟩
/-- while test: body -/
theorem sp_while {tb : TS} (Inv : Nat → Env1 → List Dat → Prop) {m0 : Nat} (h0 : Inv m0 env S)
    (hs : ∀ m env' S', Inv m env' S' → ∃ (b : Bool) (S2 : List Dat), EvT K tt env' S' b S2 ∧
      (b = true → SP K n tb env' S2 { nx := fun env2 S3 => ∃ m', m' < m ∧ Inv m' env2 S3, rt := P.rt, ok := P.ok, bk := P.nx, ct := fun env2 S3 => ∃ m', m' < m ∧ Inv m' env2 S3 }) ∧ (b = false → P.nx env' S2)) :
    SP K n (tWhile tt tb) env S P := fun B0 H0 as0 Bk B H as σ hl f0 c g0 D mm => by
  refine ⟨fun m σ' H' => ∃ env' S' B' as', Fr B0 H0 as0 Bk B' H' as' ∧ Ok K B' H' as' S' ∧ EnvR K B' as' σ' env' ∧ Inv m env' S', ⟨m0, env, S, B, as, f0, c, g0, h0⟩, ?_⟩
  rintro m σ' H' ⟨env', S', B', as', f', c', g', hinv⟩
  obtain ⟨b, S2, ht, h1, h2⟩ := hs m env' S' hinv
  refine ht B' H' as' σ' c' g' _ fun B2 H2 c2 e2 => ?_
  have f2 := f'.step e2
  have g2 := g'.mono e2.ex
  cases b with
  | false =>
    rw [if_neg (by decide)]
    exact mm.nx env' S2 B2 H2 as' σ' f2 c2 g2 (h2 rfl)
  | true =>
    rw [if_pos rfl]
    refine ⟨fun σ3 H3 => ∃ m', m' < m ∧ ∃ env3 S3 B3 as3, Fr B0 H0 as0 Bk B3 H3 as3 ∧ Ok K B3 H3 as3 S3 ∧ EnvR K B3 as3 σ3 env3 ∧ Inv m' env3 S3, fun σ3 H3 ⟨m', hm, h⟩ => ⟨m', hm, h⟩, ?_⟩
    refine h1 rfl B0 H0 as0 Bk B2 H2 as' σ' hl f2 c2 g2 _ ⟨?_, mm.rt, ?_, ?_, mm.ok⟩
    · exact fun env4 S4 B4 H4 as4 σ4 f4 c4 g4 ⟨m', hm, h⟩ => ⟨m', hm, env4, S4, B4, as4, f4, c4, g4, h⟩
    · exact fun env4 S4 B4 H4 as4 σ4 f4 c4 g4 p4 => mm.nx env4 S4 B4 H4 as4 σ4 f4 c4 g4 p4
    · exact fun env4 S4 B4 H4 as4 σ4 f4 c4 g4 ⟨m', hm, h⟩ => ⟨m', hm, env4, S4, B4, as4, f4, c4, g4, h⟩
/-! ### a dict whose keys are rows -/
/-- x = {} -/
theorem sp_setD (q : SP K n u (env.set i (some (.c S.length))) (S ++ [.dic []]) P) : SP K n (tSeq (tAsg tDNewT (gName i)) u) env S P := fun B0 H0 as0 Bk B H as σ hl f c g D m => fun p hp => by
  have hB := c.Bnone hp
  have hpa := c.fresh hp
  have c2 : Ok K B (upd H p (.dT [])) as S := c.other hB hpa
  have e2 : Evo B H as B (upd H p (.dT [])) := Evo.refl.other (.of hp)
  refine q B0 H0 as0 Bk B _ (as ++ [p]) _ hl ((f.step e2).push (f.evo.old hp)) (c2.push hB hpa ⟨_, upd_same, rfl⟩) ((g.grow).set i ⟨p, by rw [← c.len]; simp, rfl⟩) D m
theorem key_ints {k : List Int} : (k.map (Sum.inl : Int → L2.Key)).map kV = k.map V.int := by rw [List.map_map]; rfl
def insK (ks : List (List Int)) (k : List Int) : List (List Int) := if k ∈ ks then ks else ks ++ [k]
theorem inl_inj {a b : List Int} (h : a.map (Sum.inl : Int → L2.Key) = b.map Sum.inl) : a = b := (List.map_inj_right fun _ _ z => Sum.inl.inj z).mp h
theorem putK_keys {kvs : List (List L2.Key × V)} {ks : List (List Int)} {k : List Int} {v : V} (h : kvs.map (·.1) = ks.map fun k => k.map Sum.inl) : (putK kvs (k.map Sum.inl) v).map (·.1) = (insK ks k).map fun k => k.map Sum.inl := by
  have hm : (kvs.any fun kv => decide (kv.1 = k.map Sum.inl)) = true ↔ k ∈ ks := by
    rw [List.any_eq_true]
    constructor
    · rintro ⟨kv, hkv, e⟩
      have : kv.1 ∈ kvs.map (·.1) := List.mem_map.mpr ⟨kv, hkv, rfl⟩
      rw [h] at this
      obtain ⟨k2, hk2, e2⟩ := List.mem_map.mp this
      have e3 : kv.1 = k.map Sum.inl := by simpa using e
      rw [e3] at e2
      rw [← inl_inj e2]; exact hk2
    · intro hk
      have : k.map Sum.inl ∈ kvs.map (·.1) := by rw [h]; exact List.mem_map.mpr ⟨k, hk, rfl⟩
      obtain ⟨kv, hkv, e⟩ := List.mem_map.mp this
      exact ⟨kv, hkv, by simpa using e⟩
  unfold putK insK
  by_cases hk : k ∈ ks
  · rw [if_pos (hm.mpr hk), if_pos hk, ← h, List.map_map]
    refine List.map_congr_left fun kv _ => ?_
    show (if kv.1 = k.map Sum.inl then (kv.1, v) else kv).1 = kv.1
    split <;> rfl
  · rw [if_neg (fun z => hk (hm.mp z)), if_neg hk, List.map_append, List.map_append, h]
    rfl
/-- d[tuple(xs)] = e, xs a new list of numbers -/
theorem sp_stD1 {ks : List (List Int)} {ns : List Int} (h : Ev K te env S (.d d) S1) (ho : Ev K to env S1 (.c k) S2) (hx : EvN K ti env S2 (ns.map Dat.int) S3) (hs : S3[k]? = some (.dic ks)) (hl : ks.length < sizeLine) (hq : P.nx env (S3.set k (.dic (insK ks ns)))) :
    SP K n (tAsg te (gSub to (tCB (rTupD K) (tCons ti tNil)) rSetD)) env S P := fun B0 H0 as0 Bk B H as σ hl0 f0 c g D m =>
  h B H as σ c g _ fun v B1 H1 c1 e1 r1 => ho B1 H1 as σ c1 (g.mono e1.ex) _ fun w B2 H2 c2 e2 r2 => hx B2 H2 as σ c2 (g.mono (e1.trans e2).ex) _ fun l B3 H3 vs c3 e3 hl2 hb3 hl3 r3 => by
    obtain ⟨p, hp, rfl⟩ := r2
    have ei := r3.ints
    subst ei
    refine ⟨l, _, rfl, .inl ⟨Evl.sq_of hl3, fun tp htp => ?_⟩⟩
    have hpt : tp ∉ as := c3.fresh htp
    have c4 := c3.new (o := .tup (ns.map V.int)) htp
    have e4 := Evo.new (o := .tup (ns.map V.int)) c3 htp
    obtain ⟨kvs, hkv, hks⟩ := (c4.cells k p _ hp hs).2.dic
    have e05 := (((e1.trans e2).trans e3).trans e4).trans (Evo.setc (o := .dT (putK kvs (ns.map Sum.inl) v)) (List.mem_of_getElem? hp) hkv (fun _ z => nomatch z))
    refine ⟨p, _, rfl, .inr ⟨kvs, ns.map Sum.inl, tp, hkv, rfl, by rw [key_ints]; exact upd_same, ?_, rfl⟩, ?_⟩
    · have := congrArg List.length hks
      rw [List.length_map, List.length_map] at this
      omega
    · exact m.nx _ _ _ _ as σ (f0.step e05) (c4.setc hp (show CellO K _ (.dT _) (.dic _) from putK_keys hks)) (g.mono e05.ex) hq
/-- sorted(d): the keys, ascending -/
theorem en_sortD {ks : List (List Int)} {dn : Nat} (h : Ev K to env S (.c k) S1) (hs : S1[k]? = some (.dic ks)) (hd : 1 ≤ dn) (hk : ∀ r ∈ ks, r.length = dn) (hl : ks.length < 64) {rows : List (List Int)}
    (hu : ∀ rs : List (List Int), rs.Perm ks → rs.Pairwise (fun x y => RwS.lx y x = false) → rs = rows) :
    EvN K (tCB RwS.rSortedDT (tCons to tNil)) env S (rows.map fun r => Dat.tup (r.map Dat.int)) S1 := fun B H as σ c g Q q =>
  h B H as σ c g _ fun v B1 H1 c1 e1 r1 => by
    obtain ⟨p, hp, rfl⟩ := r1
    obtain ⟨kvs, hkv, hks⟩ := (c1.cells k p _ hp hs).2.dic
    refine ⟨p, kvs, ks, dn, rfl, hkv, hks, hd, hk, hl, fun L w l1 l2 l3 hw => ?_⟩
    have er := hu _ l2 (List.pairwise_map.mpr l3)
    -- what the keys are is known from now on
    have hcell : ∀ a ∈ L.map (·.1), a ∉ as := fun a ha hm => by
      obtain ⟨r, hr, rfl⟩ := List.mem_map.mp ha
      obtain ⟨j, hj⟩ := List.mem_iff_getElem?.mp hm
      have hjl : j < S1.length := by rw [← c1.len]; exact (List.getElem?_eq_some_iff.mp hj).1
      obtain ⟨_, o, ho, hco⟩ := c1.cells j _ _ hj (List.getElem?_eq_getElem hjl)
      rw [l1 r hr] at ho
      cases ho
      exact hco
    let B2 : Hp := fun a => if a ∈ L.map (·.1) then H1 a else B1 a
    have hin : ∀ a, a ∈ L.map (·.1) → B2 a = H1 a := fun a ha => if_pos ha
    have hout : ∀ a, a ∉ L.map (·.1) → B2 a = B1 a := fun a ha => if_neg ha
    have ex12 : Ex B1 B2 := fun a o e => by
      by_cases ha : a ∈ L.map (·.1)
      · rw [hin a ha]; exact c1.ex a o e
      · rw [hout a ha]; exact e
    have c2 : Ok K B2 H1 as S1 := ⟨fun a o e => by
      by_cases ha : a ∈ L.map (·.1)
      · rw [hin a ha] at e; exact e
      · rw [hout a ha] at e; exact c1.ex a o e, c1.len, fun j a s h1 h2 => by
      obtain ⟨q1, o, q2, q3⟩ := c1.cells j a s h1 h2
      exact ⟨by rw [hout a (fun ha => hcell a ha (List.mem_of_getElem? h1))]; exact q1, o, q2, q3.mono ex12⟩, c1.nd, c1.lk, fun a ps e => by
      by_cases ha : a ∈ L.map (·.1)
      · rw [hin a ha] at e
        obtain ⟨r, hr, rfl⟩ := List.mem_map.mp ha
        rw [l1 r hr] at e; cases e
      · rw [hout a ha] at e; exact c1.ntb a ps e, c1.tb⟩
    have e12 : Evo B1 H1 as B2 H1 := ⟨ex12, fun _ _ _ h _ => h, fun a _ _ _ => by
      by_cases ha : a ∈ L.map (·.1)
      · obtain ⟨r, hr, rfl⟩ := List.mem_map.mp ha
        exact .inr ⟨_, .inl ⟨_, rfl⟩, l1 r hr⟩
      · exact .inl (hout a ha), fun _ _ _ h => h, fun _ o h nt => ⟨o, h, nt⟩⟩
    refine evn_new c c2 (e1.trans e12) hw ?_ q
    rw [← er, List.map_map]
    have key : ∀ M : List (Addr × List Int), (∀ r ∈ M, r ∈ L) → Reps K B2 (M.map fun r => V.ref r.1) (M.map ((fun r => Dat.tup (r.map Dat.int)) ∘ fun r => r.2)) := by
      intro M
      induction M with
      | nil => intro _; exact .nil
      | cons r M ih =>
        intro hM
        have hr := hM r List.mem_cons_self
        refine .cons (.tup (Evl.st_of ?_) (reps_ints r.2)) (ih fun s hs => hM s (List.mem_cons_of_mem _ hs))
        rw [hin _ (List.mem_map.mpr ⟨r, hr, rfl⟩)]
        exact l1 r hr
    exact key L fun r hr => hr
end
end RW

set_option Elab.async false
set_option linter.all false
set_option maxRecDepth 100000
set_option maxHeartbeats 4000000
namespace RW
open PySem PySem.Spec PyProof.Rows L2
open Evl (Ex)
section
variable {K : PySem.W.Frag} {n : Nat} {te ta tb tc to ti tv : TE} {env env' : Env1} {S S1 S2 S3 : List Dat} {x y z : Sl} {d e : Dat} {ds es : List Dat} {P P' : Post} {t u : TS}
  {B B0 B1 B2 B' H H0 H1 H2 H' : Hp} {as as0 as1 : List Addr} {D : Ends} {σ : L2.St} {i j k : Nat}
/-- a, b = [..], e: a is a new list that will be changed -/
theorem sp_parC (h : EvN K ta env S ds S1) (hv : Ev K tb env S1 y S2) (q : SP K n u ((env.set j (some (.c S2.length))).set k (some y)) (S2 ++ [.lst ds]) P) :
    SP K n (tSeq (tPar j k (tCons ta (tCons tb tNil))) u) env S P := fun B0 H0 as0 Bk B H as σ hl f c g D m =>
  h B H as σ c g _ fun p B1 H1 vs c1 e1 hp hb h1 r1 => hv B1 H1 as σ c1 (g.mono e1.ex) _ fun w B2 H2 c2 e2 r2 => by
    have hpa : p ∉ as := hp.1
    obtain ⟨k1, k2⟩ := e2.kept hpa h1 hb
    have e03 := e1.trans e2
    exact ⟨_, _, rfl, q B0 H0 as0 Bk _ _ (as ++ [p]) _ hl ((f.step e03).push (f.evo.oldN hp.2)) (c2.push k2 hpa (.ofL k1 (r1.mono e2.ex))) (((g.mono e03.ex).grow.set (s := .c S2.length) j ⟨p, by rw [← c2.len]; simp, rfl⟩).set k r2.grow) D m⟩
/-- a, b = e, [..]: b is a new list that will be changed -/
theorem sp_parVC (hv : Ev K ta env S y S1) (h : EvN K tb env S1 ds S2) (q : SP K n u ((env.set j (some y)).set k (some (.c S2.length))) (S2 ++ [.lst ds]) P) :
    SP K n (tSeq (tPar j k (tCons ta (tCons tb tNil))) u) env S P := fun B0 H0 as0 Bk B H as σ hl f c g D m =>
  hv B H as σ c g _ fun w B1 H1 c1 e1 r1 => h B1 H1 as σ c1 (g.mono e1.ex) _ fun p B2 H2 vs c2 e2 hp hb h2 r2 => by
    have hpa : p ∉ as := hp.1
    have e03 := e1.trans e2
    exact ⟨_, _, rfl, q B0 H0 as0 Bk _ _ (as ++ [p]) _ hl ((f.step e03).push (f.evo.oldN (e1.oldN hp.2))) (c2.push hb hpa (.ofL h2 r2)) (((g.mono e03.ex).grow.set j (r1.mono e2.ex).grow).set (s := .c S2.length) k ⟨p, by rw [← c2.len]; simp, rfl⟩) D m⟩
end
end RW

set_option Elab.async false
set_option linter.all false
set_option maxRecDepth 100000
set_option maxHeartbeats 4000000
namespace RW
open PySem PySem.Spec PyProof.Rows L2
open Evl (Ex)
/-! ### how a def ends: a value, or an exception of the class at C with what it keeps -/
inductive Out where
  | val (r : Dat)
  | exc (C : Addr) (p : Option (Str × Dat))
def Pay (K : PySem.W.Frag) (B H : Hp) (d : Option Addr) : Option (Str × Dat) → Prop
  | none => True
  | some (f, x) => ∃ dd v, d = some dd ∧ H dd = some (.xd [(f, v)]) ∧ Rep K B v x
def XOk (K : PySem.W.Frag) (E : XK) (o : Out) (S' : List Dat) : Hp → Hp → List Addr → Prop := fun B0 H0 as0 =>
  ∀ C p, o = .exc C p → ∀ d B' H', Ok K B' H' as0 S' → Evo B0 H0 as0 B' H' → Pay K B' H' d p → E (.ref C) d H'
def SpR (K : PySem.W.Frag) (G : List Sl → List Dat → Out → List Dat → Prop) : Sp := fun vs H Q E => ∃ B as S ss o S', Ok K B H as S ∧ RepSs K B as vs ss ∧ G ss S o S' ∧
  (∀ r, o = .val r → ∀ v B' H', Ok K B' H' as S' → Evo B H as B' H' → Rep K B' v r → Q v H') ∧ XOk K E o S' B H as
section
variable {K : PySem.W.Frag} {n : Nat} {te ta tb tc to ti : TE} {tt tu : TT} {tA tR : TA} {env env' env1 : Env1} {S S1 S2 S3 : List Dat} {x y z : Sl} {d e : Dat} {ds es : List Dat} {r r' : R2} {P P' : Post} {t u : TS}
  {B B0 B1 B2 B' H H0 H1 H2 H' : Hp} {as as0 as1 : List Addr} {D : Ends} {σ : L2.St} {i k : Nat} {a b c : Bool} {E : XK} {C : Addr} {p : Option (Str × Dat)} {o : Out}
  {G : List Sl → List Dat → Out → List Dat → Prop}
theorem sp_bodyR {N : List Str} {vs : List V} {Q : VK} (h : SpR K G vs H Q E)
    (k : ∀ ss S o S', G ss S o S' → SP K S.length t (ss.map some ++ List.replicate (N.length - ss.length) none) S { rt := fun r' T => o = .val r' ∧ T = S', nx := fun _ T => o = .val .non ∧ T.take S.length = S', ok := XOk K E o S' }) :
    t { nx := fun _ H' => Q .non H', rt := Q } (start N vs) H := by
  obtain ⟨B, as, S, ss, o, S', c, rs, g, q, qx⟩ := h
  refine k ss S o S' g B H as B B H as _ c.len ⟨Evl.Ex.refl B, List.take_length, Evo.refl, fun a ha => ?_⟩ c (EnvR.start rs) _ ⟨fun env' T B' H' as' σ' f c' g' ⟨p1, p2⟩ => ?_, fun v r' T B' H' c' e' r1 ⟨p1, p2⟩ => ?_, fun _ _ _ _ _ _ _ _ _ p => p.elim, fun _ _ _ _ _ _ _ _ _ p => p.elim, qx⟩
  · rw [List.drop_length] at ha; cases ha
  · have c2 := c'.upto as.length
    rw [f.base, c.len, p2] at c2
    exact q .non p1 .non B' H' c2 f.evo .non
  · subst p2
    exact q r' p1 v B' H' c' e' r1
theorem spr_len {k : Nat} (h : ∀ ss S r S', G ss S r S' → ss.length = k) : ∀ vs H Q E, SpR K G vs H Q E → vs.length = k := fun vs H Q E q => by
  obtain ⟨B, as, S, ss, r, S', c, rs, g, _⟩ := q
  rw [rs.length]
  exact h ss S r S' g
/-! ### expressions that raise -/
def XWant (K : PySem.W.Frag) (E : XK) (B H : Hp) (as : List Addr) (C : Addr) (p : Option (Str × Dat)) (S1 : List Dat) : Prop :=
  ∀ d B' H', Ok K B' H' as S1 → Evo B H as B' H' → Pay K B' H' d p → E (.ref C) d H'
def EvX (K : PySem.W.Frag) (E : XK) (te : TE) (env : Env1) (S : List Dat) (C : Addr) (p : Option (Str × Dat)) (S1 : List Dat) : Prop :=
  ∀ B H as σ, Ok K B H as S → EnvR K B as σ env → XWant K E B H as C p S1 → ∀ Q, te σ H Q
def EvXT (K : PySem.W.Frag) (E : XK) (tt : TT) (env : Env1) (S : List Dat) (C : Addr) (p : Option (Str × Dat)) (S1 : List Dat) : Prop :=
  ∀ B H as σ, Ok K B H as S → EnvR K B as σ env → XWant K E B H as C p S1 → ∀ Q, tt σ H Q
def EvXA (K : PySem.W.Frag) (E : XK) (tA : TA) (env : Env1) (S : List Dat) (C : Addr) (p : Option (Str × Dat)) (S1 : List Dat) : Prop :=
  ∀ B H as σ, Ok K B H as S → EnvR K B as σ env → XWant K E B H as C p S1 → ∀ Q, tA σ H Q
theorem XWant.step {S' : List Dat} (w : XWant K E B H as C p S1) (e : Evo B H as B1 H1) : XWant K E B1 H1 as C p S1 := fun d B' H' c e1 pa => w d B' H' c (e.trans e1) pa
/-- a call that gives a value -/
theorem ev_callR {ss : List Sl} (h : EvA K tA env S ss S1) (hg : G ss S1 (.val d) S2) : Ev K (tCall (SpR K G) [] E tA) env S (.d d) S2 := fun B H as σ c g Q q =>
  h B H as σ c g _ fun vs B1 H1 c1 e1 r1 => ⟨B1, as, S1, ss, .val d, S2, c1, by rw [List.append_nil]; exact r1, hg, fun r er v B2 H2 c2 e2 r2 => by cases er; exact q v B2 H2 c2 (e1.trans e2) r2, fun _ _ z => nomatch z⟩
theorem ev_callX {ss : List Sl} (h : EvA K tA env S ss S1) (hg : G ss S1 (.exc C p) S2) : EvX K E (tCall (SpR K G) [] E tA) env S C p S2 := fun B H as σ c g w Q =>
  h B H as σ c g _ fun vs B1 H1 c1 e1 r1 => ⟨B1, as, S1, ss, .exc C p, S2, c1, by rw [List.append_nil]; exact r1, hg, fun r er => (nomatch er), fun C' p' z d B2 H2 c2 e2 pa => by cases z; exact w d B2 H2 c2 (e1.trans e2) pa⟩
theorem evx_op1 (ha : EvX K E ta env S C p S1) : EvX K E (tOp r ta tb) env S C p S1 := fun B H as σ c g w Q => ha B H as σ c g w _
theorem evx_op2 (ha : Ev K ta env S x S1) (hb : EvX K E tb env S1 C p S2) : EvX K E (tOp r ta tb) env S C p S2 := fun B H as σ c g w Q =>
  ha B H as σ c g _ fun v B1 H1 c1 e1 r1 => hb B1 H1 as σ c1 (g.mono e1.ex) (w.step (S' := S) e1) _
theorem evxa_1 (ha : EvX K E ta env S C p S1) : EvXA K E (tCons ta tA) env S C p S1 := fun B H as σ c g w Q => ha B H as σ c g w _
theorem evxa_2 (ha : Ev K ta env S x S1) (hb : EvXA K E tA env S1 C p S2) : EvXA K E (tCons ta tA) env S C p S2 := fun B H as σ c g w Q =>
  ha B H as σ c g _ fun v B1 H1 c1 e1 r1 => hb B1 H1 as σ c1 (g.mono e1.ex) (w.step (S' := S) e1) _
theorem evx_cb {r : List V → Hp → VK → Prop} (ha : EvXA K E tA env S C p S1) : EvX K E (tCB r tA) env S C p S1 := fun B H as σ c g w Q => ha B H as σ c g w _
theorem evx_callA {sp : Sp} {dvs : List V} {E' : XK} (ha : EvXA K E tA env S C p S1) : EvX K E (tCall sp dvs E' tA) env S C p S1 := fun B H as σ c g w Q => ha B H as σ c g w _
theorem evxt_B (ha : EvX K E te env S C p S1) : EvXT K E (tB te) env S C p S1 := fun B H as σ c g w Q => ha B H as σ c g w _
theorem evxt_test (ha : EvX K E te env S C p S1) : EvXT K E (tTest te) env S C p S1 := fun B H as σ c g w Q => ha B H as σ c g w _
theorem evxt_tru {K' : PySem.W.Frag} (ha : EvX K E te env S C p S1) : EvXT K E (tTru K' te) env S C p S1 := fun B H as σ c g w Q => ha B H as σ c g w _
theorem evxt_not (ha : EvXT K E tt env S C p S1) : EvXT K E (tNot tt) env S C p S1 := fun B H as σ c g w Q => ha B H as σ c g w _
theorem evxt_and1 (ha : EvXT K E tt env S C p S1) : EvXT K E (tAnd tt tu) env S C p S1 := fun B H as σ c g w Q => ha B H as σ c g w _
theorem evxt_or1 (ha : EvXT K E tt env S C p S1) : EvXT K E (tOr tt tu) env S C p S1 := fun B H as σ c g w Q => ha B H as σ c g w _
theorem evxt_or2 (h : EvT K tt env S false S1) (hb : EvXT K E tu env S1 C p S2) : EvXT K E (tOr tt tu) env S C p S2 := fun B H as σ c g w Q =>
  h B H as σ c g _ fun B1 H1 c1 e1 => hb B1 H1 as σ c1 (g.mono e1.ex) (w.step (S' := S) e1) _
theorem evxt_and2 (h : EvT K tt env S true S1) (hb : EvXT K E tu env S1 C p S2) : EvXT K E (tAnd tt tu) env S C p S2 := fun B H as σ c g w Q =>
  h B H as σ c g _ fun B1 H1 c1 e1 => hb B1 H1 as σ c1 (g.mono e1.ex) (w.step (S' := S) e1) _
theorem evx_if (h : EvT K tt env S b S1) (h1 : b = true → EvX K E ta env S1 C p S2) (h2 : b = false → EvX K E tb env S1 C p S2) : EvX K E (tIf tt ta tb) env S C p S2 := fun B H as σ c g w Q =>
  h B H as σ c g _ fun B1 H1 c1 e1 => by
    cases b with
    | true => exact h1 rfl B1 H1 as σ c1 (g.mono e1.ex) (w.step (S' := S) e1) Q
    | false => exact h2 rfl B1 H1 as σ c1 (g.mono e1.ex) (w.step (S' := S) e1) Q
/-! ### statements that raise: what is wanted of exceptions stands in P.ok -/
theorem Meets.want {Bk : Hp} (m : Meets K B0 H0 as0 Bk D P) (hP : P.ok = XOk K E (.exc C p) S2) (f : Fr B0 H0 as0 Bk B H as) (hl : as0.length = n) (hS : S1.take n = S2) : XWant K E B H as C p S1 := fun d B' H' c' e' pa => by
  have ok := m.ok
  rw [hP] at ok
  have f1 := f.step e'
  have c2 := c'.upto as0.length
  rw [f1.base, hl, hS] at c2
  exact ok C p rfl d B' H' c2 f1.evo pa
theorem sp_dropX (h : EvX K E te env S C p S1) (hP : P.ok = XOk K E (.exc C p) (S1.take n)) : SP K n (tDrop te) env S P := fun B0 H0 as0 Bk B H as σ hl f c g D m => h B H as σ c g (m.want hP f hl rfl) _
theorem sp_dropXq (h : EvX K E te env S C p S1) (hP : P.ok = XOk K E (.exc C p) (S1.take n)) : SP K n (tSeq (tDrop te) u) env S P := fun B0 H0 as0 Bk B H as σ hl f c g D m => h B H as σ c g (m.want hP f hl rfl) _
theorem sp_asgX {g : TG} (h : EvX K E te env S C p S1) (hP : P.ok = XOk K E (.exc C p) (S1.take n)) : SP K n (tAsg te g) env S P := fun B0 H0 as0 Bk B H as σ hl f c g D m => h B H as σ c g (m.want hP f hl rfl) _
theorem sp_asgXq {g : TG} (h : EvX K E te env S C p S1) (hP : P.ok = XOk K E (.exc C p) (S1.take n)) : SP K n (tSeq (tAsg te g) u) env S P := fun B0 H0 as0 Bk B H as σ hl f c g D m => h B H as σ c g (m.want hP f hl rfl) _
theorem sp_retX (h : EvX K E te env S C p S1) (hP : P.ok = XOk K E (.exc C p) (S1.take n)) : SP K n (tRet te) env S P := fun B0 H0 as0 Bk B H as σ hl f c g D m => h B H as σ c g (m.want hP f hl rfl) _
theorem sp_ifX (h : EvXT K E tt env S C p S1) (hP : P.ok = XOk K E (.exc C p) (S1.take n)) : SP K n (tIfS tt t u) env S P := fun B0 H0 as0 Bk B H as σ hl f c g D m => h B H as σ c g (m.want hP f hl rfl) _
theorem sp_ifXq {v : TS} (h : EvXT K E tt env S C p S1) (hP : P.ok = XOk K E (.exc C p) (S1.take n)) : SP K n (tSeq (tIfS tt t u) v) env S P := fun B0 H0 as0 Bk B H as σ hl f c g D m => h B H as σ c g (m.want hP f hl rfl) _
/-- raise X('..') -/
theorem sp_raise0 (hP : P.ok = XOk K E (.exc C none) (S.take n)) : SP K n (fun _ _ H => E (.ref C) none H) env S P := fun B0 H0 as0 Bk B H as σ hl f c g D m => m.want hP f hl rfl none B H c Evo.refl trivial
theorem sp_raise0q (hP : P.ok = XOk K E (.exc C none) (S.take n)) : SP K n (tSeq (fun _ _ H => E (.ref C) none H) u) env S P := fun B0 H0 as0 Bk B H as σ hl f c g D m => m.want hP f hl rfl none B H c Evo.refl trivial
end
/-! ### an exception that keeps a value -/
/-- __init__(self, v): self.f = v -/
def spXi (K : PySem.W.Frag) (C : Addr) (f : Str) : Sp := fun vs H Q _ => ∃ (a : Addr) (v : V), vs = [.ref a, v] ∧ OexC K C ∧ PySem.W.findIn K (.ref C) f = some none ∧ H a = some (exo a C none) ∧ ∀ dx, H dx = none → dx ≠ a → Q .non (upd (upd H dx (exd dx [(f, v)])) a (exo a C (some dx)))
theorem spxi_len {K : PySem.W.Frag} {C : Addr} {f : Str} : ∀ vs H Q E, spXi K C f vs H Q E → vs.length = 2 := fun vs H Q E ⟨a, v, e, _⟩ => by rw [e]; rfl
theorem spxi_body {K : PySem.W.Frag} {C : Addr} {f : Str} {N : List Str} {vs : List V} {H : Hp} {Q : VK} {E : XK} (h : spXi K C f vs H Q E) (hN : N.length = 2) : tOst K f (tVar 0) (tVar 1) { nx := fun _ H' => Q .non H', rt := Q } (start N vs) H := by
  obtain ⟨a, v, rfl, h1, h2, h3, q⟩ := h
  have e0 : (start N [V.ref a, v])[0]? = some (some (V.ref a)) := rfl
  have e1 : (start N [V.ref a, v])[1]? = some (some v) := rfl
  exact ⟨v, e1, _, e0, a, C, rfl, h1, h2, .inl ⟨h3, q⟩⟩
section
variable {K : PySem.W.Frag} {n : Nat} {tA : TA} {env : Env1} {S S1 : List Dat} {d : Dat} {P : Post} {u : TS} {E : XK} {C : Addr} {f : Str}
theorem xd_end {H1 : Hp} {a d : Addr} {u v w : HO} (ha : H1 a = none) (hd : d ≠ a) : upd (del (upd (upd (upd H1 a u) d v) a w) a) d (.xd fs) = upd H1 d (.xd fs) := by
  funext b
  by_cases hb : b = d
  · rw [hb, upd_same, upd_same]
  · rw [upd_ne hb, upd_ne hb]
    by_cases hba : b = a
    · rw [hba, del_same, ha]
    · rw [del_ne hba, upd_ne hba, upd_ne hb, upd_ne hba]
theorem mko_want {B H : Hp} {as : List Addr} {σ : L2.St} (h : EvA K tA env S [.d d] S1) (oc : OexC K C) (hf : PySem.W.findIn K (.ref C) f = some none) (c : Ok K B H as S) (g : EnvR K B as σ env) (w : XWant K E B H as C (some (f, d)) S1) :
    tMkO C (spXi K C f) [] tA σ H fun cls d H' => E cls d H' := h B H as σ c g _ fun vs B1 H1 c1 e1 r1 => by
  cases r1 with
  | cons r1 rr =>
    rename_i v vs'
    cases rr
    refine ⟨by show 1 ≤ 1000; decide, fun a ha => ⟨a, v, rfl, oc, hf, upd_same, fun dx hdx hne => ⟨rfl, dx, [(f, v)], upd_same, by rw [upd_ne hne, upd_same], by rw [upd_ne hne] at hdx; exact hdx, ?_⟩⟩⟩
    rw [upd_ne hne] at hdx
    rw [xd_end ha hne]
    have hB := c1.Bnone hdx
    exact w (some dx) B1 _ (c1.other hB (c1.fresh hdx)) (e1.trans (Evo.refl.other (.of hdx))) ⟨dx, v, rfl, upd_same, r1⟩
/-- raise X(e) -/
theorem sp_raise1 (h : EvA K tA env S [.d d] S1) (oc : OexC K C) (hf : PySem.W.findIn K (.ref C) f = some none) (hP : P.ok = XOk K E (.exc C (some (f, d))) (S1.take n)) : SP K n (fun _ σ H => tMkO C (spXi K C f) [] tA σ H fun cls d H' => E cls d H') env S P :=
  fun B0 H0 as0 Bk B H as σ hl f0 c g D m => mko_want h oc hf c g (m.want hP f0 hl rfl)
theorem sp_raise1q (h : EvA K tA env S [.d d] S1) (oc : OexC K C) (hf : PySem.W.findIn K (.ref C) f = some none) (hP : P.ok = XOk K E (.exc C (some (f, d))) (S1.take n)) : SP K n (tSeq (fun _ σ H => tMkO C (spXi K C f) [] tA σ H fun cls d H' => E cls d H') u) env S P :=
  fun B0 H0 as0 Bk B H as σ hl f0 c g D m => mko_want h oc hf c g (m.want hP f0 hl rfl)
end
end RW

set_option Elab.async false
set_option linter.all false
set_option maxRecDepth 100000
set_option maxHeartbeats 4000000
namespace RW
open PySem PySem.Spec PyProof.Rows L2
open Evl (Ex)
/-! ### tables of code objects among what is changed -/
section
variable {K : PySem.W.Frag} {env : Env1} {S S1 S2 : List Dat} {B B1 H H1 : Hp} {as : List Addr} {σ : L2.St}
def TabsD (T : List (Addr × Str)) (S : List Dat) : Prop := ∀ p ∈ T, ∃ k : Nat, S[k]? = some (.tab p.1 p.2)
theorem codeO_tbl {c : Addr} {q : Str} (ps : Array Value) : LamX.CodeO c q ≠ .tbl ps := LamX.codeO_ne ps
theorem Ok.tabAt (c : Ok K B H as S) {k : Nat} {P : Addr} {q : Str} (h : S[k]? = some (.tab P q)) : as[k]? = some P ∧ B P = none ∧ ∃ ps, H P = some (.tbl ps) ∧ TriplesOk ps.toList ∧ ∀ (pos : Pos) (cv : Value), codeAmong pos ps.toList = some cv → ∃ c, cv = .ref c ∧ B c = some (LamX.CodeO c q) := by
  have ha := c.tb k _ P h rfl
  obtain ⟨hb, o, ho, hc⟩ := c.cells k P _ ha h
  cases o <;> first
    | exact hc.elim
    | exact ⟨ha, hb, _, ho, hc⟩
theorem Ok.tabs {T : List (Addr × Str)} (c : Ok K B H as S) (h : TabsD T S) : LamX.Tabs T H := fun p hp => by
  obtain ⟨k, hk⟩ := h p hp
  obtain ⟨_, _, ps, h1, h2, h3⟩ := c.tabAt hk
  refine ⟨ps, h1, h2, fun pos cv hc => ?_⟩
  obtain ⟨c', e1, e2⟩ := h3 pos cv hc
  exact ⟨c', e1, c.ex _ _ e2⟩
/-- all codes are known from now on -/
noncomputable def withCodes (B H1 : Hp) : Hp := fun a => by
  classical
  exact if ∃ q, H1 a = some (LamX.CodeO a q) then H1 a else B a
theorem wc_yes {a : Addr} {q : Str} (h : H1 a = some (LamX.CodeO a q)) : withCodes B H1 a = H1 a := by
  unfold withCodes
  exact if_pos ⟨q, h⟩
theorem wc_no {a : Addr} (h : ¬ ∃ q, H1 a = some (LamX.CodeO a q)) : withCodes B H1 a = B a := by
  unfold withCodes
  exact if_neg h
theorem wc_or (a : Addr) : (withCodes B H1 a = H1 a ∧ ∃ q, H1 a = some (LamX.CodeO a q)) ∨ withCodes B H1 a = B a := by
  by_cases h : ∃ q, H1 a = some (LamX.CodeO a q)
  · obtain ⟨q, h⟩ := h
    exact .inl ⟨wc_yes h, q, h⟩
  · exact .inr (wc_no h)
/-- behind the making of a lambda: all but the tables stand, the tables are tables -/
theorem Ok.lam {T : List (Addr × Str)} (c : Ok K B H as S) (hT : TabsD T S) (hall : ∀ (k : Nat) (P : Addr) (q : Str), S[k]? = some (.tab P q) → (P, q) ∈ T) (e : LamX.ExtN H H1) (t : LamX.Tabs T H1) :
    Ok K (withCodes B H1) H1 as S ∧ Evo B H as (withCodes B H1) H1 := by
  have hBH : ∀ a o, B a = some o → H1 a = some o := fun a o h => e a o (c.ex a o h) fun ps z => c.ntb a ps (by rw [h, z])
  have ex1 : Ex B (withCodes B H1) := fun a o h => by
    rcases wc_or (B := B) (H1 := H1) a with ⟨z, _⟩ | z
    · rw [z]; exact hBH a o h
    · rw [z]; exact h
  have cellNC : ∀ (k : Nat) (a : Addr) (s : Dat), as[k]? = some a → S[k]? = some s → ¬ ∃ q, H1 a = some (LamX.CodeO a q) := fun k a s h1 h2 ⟨q, hq⟩ => by
    obtain ⟨hb, o, ho, hc⟩ := c.cells k a s h1 h2
    by_cases ht : ∃ ps, o = .tbl ps
    · obtain ⟨ps, rfl⟩ := ht
      cases s <;> first
        | exact hc.elim
        | (rename_i P q2
           have hp := c.tb k _ P h2 rfl
           rw [h1] at hp
           cases hp
           obtain ⟨ps2, h3, _⟩ := t (a, q2) (hall k a q2 h2)
           rw [hq] at h3
           exact codeO_tbl ps2 (Option.some.inj h3))
    · have := e a o ho fun ps z => ht ⟨ps, z⟩
      rw [hq] at this
      have e2 := Option.some.inj this
      unfold LamX.CodeO at e2
      subst e2
      cases s <;> exact hc.elim
  refine ⟨⟨fun a o h => ?_, c.len, fun k a s h1 h2 => ?_, c.nd, fun k a s o h1 h2 h3 => ?_, fun a ps h => ?_, c.tb⟩, ⟨ex1, fun a o hn h nt => e a o h nt, fun a o h nt => ?_, fun a o fo h => e a o h (fun ps z => by subst z; exact fo.tbl), fun a o h nt => ⟨o, e a o h nt, nt⟩⟩⟩
  · rcases wc_or (B := B) (H1 := H1) a with ⟨z, _⟩ | z
    · rw [z] at h; exact h
    · rw [z] at h; exact hBH a o h
  · obtain ⟨hb, o, ho, hc⟩ := c.cells k a s h1 h2
    refine ⟨by rw [wc_no (cellNC k a s h1 h2)]; exact hb, ?_⟩
    by_cases ht : ∃ ps, o = .tbl ps
    · obtain ⟨ps, rfl⟩ := ht
      cases s <;> first
        | exact hc.elim
        | (rename_i P q2
           have hp := c.tb k _ P h2 rfl
           rw [h1] at hp
           cases hp
           obtain ⟨ps2, h3, h4, h5⟩ := t (a, q2) (hall k a q2 h2)
           refine ⟨_, h3, h4, fun pos cv hcv => ?_⟩
           obtain ⟨c', e1, e2⟩ := h5 pos cv hcv
           exact ⟨c', e1, by rw [wc_yes e2]; exact e2⟩)
    · exact ⟨o, e a o ho fun ps z => ht ⟨ps, z⟩, hc.mono ex1⟩
  · obtain ⟨hb, o', ho, hc⟩ := c.cells k a s h1 h2
    by_cases ht : ∃ ps, o' = .tbl ps
    · obtain ⟨ps, rfl⟩ := ht
      cases s <;> first
        | exact hc.elim
        | exact fun _ _ _ _ z => nomatch z
    · have := e a o' ho fun ps z => ht ⟨ps, z⟩
      rw [h3] at this
      cases this
      exact c.lk k a s _ h1 h2 ho
  · rcases wc_or (B := B) (H1 := H1) a with ⟨z, q, hq⟩ | z
    · rw [z, hq] at h
      exact codeO_tbl ps (Option.some.inj h)
    · rw [z] at h; exact c.ntb a ps h
  · rcases wc_or (B := B) (H1 := H1) a with ⟨z, q, hq⟩ | z
    · exact .inr ⟨_, .inr ⟨a, q, rfl⟩, hq⟩
    · exact .inl z
end
end RW

set_option Elab.async false
set_option linter.all false
set_option maxRecDepth 100000
set_option maxHeartbeats 4000000
namespace RW
open PySem PySem.Spec PyProof.Rows L2
open Evl (Ex)
/-! ### try with several clauses, some of which name the exception -/
/-- a clause: its class, the slot of the name (if there is one), its suite's reading -/
abbrev Clause := Value × Option Nat × (Addr → Value → Option Addr → TS)
def unsetE (D : Ends) (i : Nat) : Ends := { nx := fun σ' H' => D.nx (σ'.set i none) H', rt := D.rt, bk := fun σ' H' => D.bk (σ'.set i none) H', ct := fun σ' H' => D.ct (σ'.set i none) H' }
def suiteRun (D : Ends) (i : Option Nat) (ts : TS) (a : Addr) (σ : L2.St) (H : Hp) : Prop := match i with
  | none => ts D σ H
  | some i => ts (unsetE D i) (σ.set i (some (.ref a))) H
def wMix (K : PySem.W.Frag) (Wout : WX) (D : Ends) : List Clause → WX
  | [] => Wout
  | (c, i, ts) :: r => fun cls d σ H => ∃ b, PySem.W.exmOne K cls c = some b ∧ (b = true → ∀ a, H a = none → suiteRun D i (ts a cls d) a σ H) ∧ (b = false → wMix K Wout D r cls d σ H)
inductive HdX (X : Cx) : List ExceptHandler → List Clause → Prop
  | nil : HdX X [] []
  | bare {x : Str} {c : Value} {ts : Addr → Value → Option Addr → TS} {b₀ : Stmt} {su : List Stmt} {np p' : Pos} {hds : List ExceptHandler} {l : List Clause} (hc : Names X x c)
      (hsu : ∀ (a : Addr) (oe : Obj) (cls : Value) (d : Option Addr) (pn : List (Addr × Obj)), Zc cls d oe → (∃ vs, oe.data = .fields vs) → PSs (X.suite a ((a, oe) :: pn)) (b₀ :: su) (ts a cls d)) (r : HdX X hds l) :
      HdX X (.ExceptHandler (some (.Name x np)) none (b₀ :: su) p' :: hds) ((c, none, ts) :: l)
  | named {x m : Str} {i : Nat} {c : Value} {ts : Addr → Value → Option Addr → TS} {b₀ : Stmt} {su : List Stmt} {np p' : Pos} {hds : List ExceptHandler} {l : List Clause} (hc : Names X x c) (hN : X.N.Nodup) (hi : X.N[i]? = some m) (hm : X.env.kindOf m = some .local)
      (hsu : ∀ (a : Addr) (oe : Obj) (cls : Value) (d : Option Addr) (pn : List (Addr × Obj)), Zc cls d oe → (∃ vs, oe.data = .fields vs) → PSs (X.suite a ((a, oe) :: pn)) (b₀ :: su) (ts a cls d)) (r : HdX X hds l) :
      HdX X (.ExceptHandler (some (.Name x np)) (some m) (b₀ :: su) p' :: hds) ((c, some i, ts) :: l)
section
variable {X : Cx} {body : List Stmt} {h₀ : ExceptHandler} {hds : List ExceptHandler} {l : List Clause} {pos : Pos} {tb : WX → TS} {Wout : WX}
/-- a caught exception at a, on the ground -/
structure Caught (X : Cx) (pins : List (Addr × Obj)) (a : Addr) (B : Heap) (sI : Shared) (σ : L2.St) (H : Hp) (cls : Value) (d : Option Addr) (s' : Shared) : Prop where
  J : Inv X pins σ H sI
  nb : ∀ b o, sI.heap.get? b = some o → b ∉ frs X.stack → B.get? b = some o
  fl : HandSPX.FlyingZ B (X.env :: X.outer) a (Zc cls d) s'.heap
  up : sI.heap.UpToSlots s'.heap
  na : H a = none
  os : s'.os = sI.os
  ag : AllBare s'.gens
theorem Caught.inv {pins : List (Addr × Obj)} {a : Addr} {B : Heap} {sI : Shared} {σ : L2.St} {H : Hp} {cls : Value} {d : Option Addr} {s' : Shared} (C : Caught X pins a B sI σ H cls d s') : Inv X pins σ H s' := C.J.landed C.nb C.fl.1 C.up C.os C.ag
theorem Caught.off {pins : List (Addr × Obj)} {a : Addr} {B : Heap} {sI : Shared} {σ : L2.St} {H : Hp} {cls : Value} {d : Option Addr} {s' : Shared} (C : Caught X pins a B sI σ H cls d s') (hf : X.env.frame = some X.env.locals) : a ≠ X.env.locals ∧ a ∉ X.fs := by
  obtain ⟨o, vs, ho, _, hd⟩ := C.fl.there
  have nfr : a ∉ frs (X.env :: X.outer) := fun hm => by
    obtain ⟨_, o', e', hnf⟩ := C.fl.2.2.1.mem hm
    rw [ho] at e'; cases e'
    exact hnf _ hd
  refine ⟨fun z => nfr (List.mem_filterMap.mpr ⟨X.env, List.mem_cons_self, by rw [hf, z]⟩), fun hm => ?_⟩
  obtain ⟨e, he, q⟩ := List.mem_filterMap.mp hm
  exact nfr (List.mem_filterMap.mpr ⟨e, List.mem_cons_of_mem _ he, q⟩)
theorem handle_mix (hs : X.stack = X.env :: X.outer) (hf : X.env.frame = some X.env.locals) (tk : Takes X Wout) {pins : List (Addr × Obj)} {D : Ends} {a : Addr} {B : Heap} {sI : Shared} {σ : L2.St} {H : Hp} {cls : Value} {d : Option Addr} :
    ∀ {hds : List ExceptHandler} {l : List Clause}, HdX X hds l → ∀ {s' : Shared}, Caught X pins a B sI σ H cls d s' → wMix X.K Wout D l cls d σ H → wpAny (model X.prog X.w) X.A (handleBy (.ref a) X.env hds) (L2.SP X pins D) X.xe s' := by
  intro hds l hk
  have suites : ∀ {s' : Shared} {b₀ : Stmt} {su : List Stmt} {ts : TS} {oe : Obj} {E : Ends} {σ1 : L2.St} {s1 : Shared} {R : Flow → Shared → Prop} {E' : Value → Shared → Prop}, PSs (X.suite a ((a, oe) :: (X.pn ++ pins))) (b₀ :: su) ts → Inv (X.suite a ((a, oe) :: (X.pn ++ pins))) [] σ1 H s1 → ts E σ1 H →
      (∀ f s2, L2.SP (X.suite a ((a, oe) :: (X.pn ++ pins))) [] E f s2 → R f s2) → wpAny (model X.prog X.w) (X.A.mark (some (.ref a))) (execs (b₀ :: su) X.env) R E' s1 := fun hp I ht k =>
    wpAny_mono (hp.run [] _ _ H _ I ht) (fun f s2 q => k f s2 q) fun _ _ z => False.elim z
  induction hk with
  | nil =>
    intro s' C w
    refine wpAny_handleBy_nil ?_
    have fl3 := C.fl
    obtain ⟨_, _, _, oe, vs, T, oT, ts', he, hz, hd, h1, hr⟩ := id fl3
    unfold PySem.passOn
    refine wpAny_bind (wpAny_field he hd h1 ?_)
    rw [if_neg (show ¬ ((Value.ref T == Value.none) = true) by simp)]
    have fin : wpAny (model X.prog X.w) X.A (setFlight (.ref a) X.env.frame) (fun _ s4 => wpAny (model X.prog X.w) X.A (throw (.ref a) : Sem Flow) (L2.SP X pins D) X.xe s4) X.xe s' := by
      rw [hf]
      exact HandSPX.setFlight_upZ fl3 fun h4 hh4 up4 => wpAny_throw (tk _ _ ⟨a, B, sI, pins, σ, H, cls, d, rfl, C.J, C.nb, C.up.trans up4, .inr (.inr (by rw [hs]; exact hh4)), C.na, C.os, C.ag, w⟩)
    first
      | exact wpAny_bind (wpAny_pure (wpAny_bind fin))
      | exact wpAny_bind fin
  | @bare x c ts b₀ su np p' hds2 l2 hc hsu r ih =>
    intro s' C w
    obtain ⟨b, hb1, hyes, hno⟩ := w
    obtain ⟨nL, nF⟩ := C.off hf
    obtain ⟨oe, vs, he, hz, hd⟩ := C.fl.there
    have S3 := C.inv.suite he hd C.na nL nF
    refine wpAny_handleBy_cons (codeAny_handlers_test ?_) (by intro q; cases q)
    have LT : PySem.W.Looks (model X.prog X.w) s'.heap (typeOf (.ref a)) cls := fun A Q E s k q => wpAny_typeOf_ref (k _ _ he) (by rw [hz.1]; exact q)
    have LM := PySem.W.exm_one (M := model X.prog X.w) C.inv.kIn LT hb1
    have nm : ∀ {Q E : Value → Shared → Prop}, Q c s' → wpAny (model X.prog X.w) (X.A.mark (some (.ref a))) (eval (.Name x np) X.env) Q E s' := fun {Q E} q => by
      obtain ⟨hg, hdbg, h | ⟨h, hv, hnn⟩⟩ := hc
      · exact ld_glob (X := X.suite a ((a, oe) :: (X.pn ++ pins))) S3 hg h q hdbg
      · exact ld_blt (X := X.suite a ((a, oe) :: (X.pn ++ pins))) S3 hg h hv q hnn hdbg
    refine nm (LM.here ?_)
    cases b with
    | true =>
      refine codeAny_handlers_suite ?_
      refine HandSPX.lands_againZ C.fl fun h4 fl4 up4 => ?_
      have C4 : Caught X pins a B sI σ H cls d { s' with heap := h4 } := ⟨C.J, C.nb, fl4, C.up.trans up4, C.na, C.os, C.ag⟩
      obtain ⟨oe4, vs4, he4, hz4, hd4⟩ := fl4.there
      refine suites (s' := s') (hsu a oe4 cls d (X.pn ++ pins) hz4 ⟨_, hd4⟩) (C4.inv.suite he4 hd4 C.na nL nF) (hyes rfl a C.na) fun f s6 hsp => ?_
      cases f with
      | next => obtain ⟨σ6, H6, S6, q6⟩ := hsp; exact ⟨_, _, S6.unsuite C.J.ok, q6⟩
      | brk => obtain ⟨σ6, H6, S6, q6⟩ := hsp; exact ⟨_, _, S6.unsuite C.J.ok, q6⟩
      | cont => obtain ⟨σ6, H6, S6, q6⟩ := hsp; exact ⟨_, _, S6.unsuite C.J.ok, q6⟩
      | ret u => obtain ⟨v6, σ6, H6, S6, r6, q6⟩ := hsp; exact ⟨_, _, _, S6.unsuite C.J.ok, r6, q6⟩
    | false =>
      show wpAny _ X.A (handleBy (.ref a) X.env hds2) _ _ _
      exact ih (s' := s') C (hno rfl)
  | @named x m i c ts b₀ su np p' hds2 l2 hc hN hi hm hsu r ih =>
    intro s' C w
    obtain ⟨b, hb1, hyes, hno⟩ := w
    obtain ⟨nL, nF⟩ := C.off hf
    obtain ⟨oe, vs, he, hz, hd⟩ := C.fl.there
    have S3 := C.inv.suite he hd C.na nL nF
    have hloc : Loc X.env.scope m := .inl hm
    refine wpAny_handleBy_cons (codeAny_handlers_test ?_) (by intro q; cases q)
    have LT : PySem.W.Looks (model X.prog X.w) s'.heap (typeOf (.ref a)) cls := fun A Q E s k q => wpAny_typeOf_ref (k _ _ he) (by rw [hz.1]; exact q)
    have LM := PySem.W.exm_one (M := model X.prog X.w) C.inv.kIn LT hb1
    have nm : ∀ {Q E : Value → Shared → Prop}, Q c s' → wpAny (model X.prog X.w) (X.A.mark (some (.ref a))) (eval (.Name x np) X.env) Q E s' := fun {Q E} q => by
      obtain ⟨hg, hdbg, h | ⟨h, hv, hnn⟩⟩ := hc
      · exact ld_glob (X := X.suite a ((a, oe) :: (X.pn ++ pins))) S3 hg h q hdbg
      · exact ld_blt (X := X.suite a ((a, oe) :: (X.pn ++ pins))) S3 hg h hv q hnn hdbg
    refine nm (LM.here ?_)
    cases b with
    | true =>
      refine codeAny_handlers_suite_as ?_
      refine HandSPX.lands_againZ C.fl fun h4 fl4 up4 => ?_
      have C4 : Caught X pins a B sI σ H cls d { s' with heap := h4 } := ⟨C.J, C.nb, fl4, C.up.trans up4, C.na, C.os, C.ag⟩
      obtain ⟨oe4, vs4, he4, hz4, hd4⟩ := fl4.there
      have S4 := C4.inv.suite he4 hd4 C.na nL nF
      refine store_ok (X := X.suite a ((a, oe4) :: (X.pn ++ pins))) (v := .ref a) S4 hN hi hloc rfl (fun s5 S5 => ?_) (.inr hm)
      refine suites (s' := s') (hsu a oe4 cls d (X.pn ++ pins) hz4 ⟨_, hd4⟩) S5 (hyes rfl a C.na) fun f s6 hsp => ?_
      have end_ : ∀ {σ6 : L2.St} {H6 : Hp} {Q : Shared → Prop}, Inv (X.suite a ((a, oe4) :: (X.pn ++ pins))) [] σ6 H6 s6 → (∀ s7, Inv X pins (σ6.set i none) H6 s7 → Q s7) →
          wpAny (model X.prog X.w) X.A (do bindName X.env m .none; unbindBehindTheSuite X.env m p') (fun _ s7 => Q s7) X.xe s6 := fun S6 hq => gone_ok (S6.unsuite C.J.ok) hN hi hm hq
      cases f with
      | next => obtain ⟨σ6, H6, S6, q6⟩ := hsp; exact end_ S6 fun s7 J7 => ⟨_, _, J7, q6⟩
      | brk => obtain ⟨σ6, H6, S6, q6⟩ := hsp; exact end_ S6 fun s7 J7 => ⟨_, _, J7, q6⟩
      | cont => obtain ⟨σ6, H6, S6, q6⟩ := hsp; exact end_ S6 fun s7 J7 => ⟨_, _, J7, q6⟩
      | ret u => obtain ⟨v6, σ6, H6, S6, r6, q6⟩ := hsp; exact end_ S6 fun s7 J7 => ⟨_, _, _, J7, r6, q6⟩
    | false =>
      show wpAny _ X.A (handleBy (.ref a) X.env hds2) _ _ _
      exact ih (s' := s') C (hno rfl)
theorem ps_try_mix (hs : X.stack = X.env :: X.outer) (hf : X.env.frame = some X.env.locals) (tk : Takes X Wout)
    (hb : ∀ (W : WX) (pn : List (Addr × Obj)) (xe : Value → Shared → Prop), Takes (X.tr pn xe) W → PassesOwn (model X.prog X.w) X.A X.env xe → PSs (X.tr pn xe) body (tb W)) (hh : HdX X (h₀ :: hds) l) :
    PS X (.Try body (h₀ :: hds) [] [] pos) (fun D σ H => tb (wMix X.K Wout D l) D σ H) := by
  refine ⟨fun pins s σ H D I h => wpAny_Try_except ?_⟩
  have ok := I.ok
  refine wpAny_mono ((hb (wMix X.K Wout D l) (X.pn ++ pins) (fun e s₁ => wpAny (model X.prog X.w) X.A (noteFrame e X.env) (fun _ s₂ => wpAny (model X.prog X.w) X.A (setFlight e none)
    (fun _ s₃ => wpAny (model X.prog X.w) X.A (handleBy e X.env (h₀ :: hds)) (L2.SP X pins D) X.xe s₃) X.xe s₂) X.xe s₁) (fun u s' xx => ?_) PassesOwn.looking).run [] s σ H D (I.toTry _) h) (fun f s1 hsp => ?_) (fun e s1 he => he)
  · obtain ⟨a, B, sI, pins', σ', H', cls, d, rfl, J', nb, up, sky, na, os, ag, w⟩ := xx
    have sky' : Sky B (X.env :: X.outer) a (Zc cls d) X.env.locals s'.heap := by rw [← hs]; exact sky
    show wpAny (model X.prog X.w) X.A (noteFrame (.ref a) X.env) _ _ _
    refine Sky.land Zc.steady (by rw [ok.frames, hs]) hf sky' fun h3 fl3 up3 => ?_
    exact handle_mix hs hf tk hh (s' := { s' with heap := h3 }) ⟨J'.ofTry ok, nb, fl3, up.trans up3, na, os, ag⟩ w
  · cases f with
    | next => obtain ⟨σ', H', J', q⟩ := hsp; exact wpAny_execs_nil ⟨σ', H', J'.ofTry ok, q⟩
    | brk => obtain ⟨σ', H', J', q⟩ := hsp; exact ⟨σ', H', J'.ofTry ok, q⟩
    | cont => obtain ⟨σ', H', J', q⟩ := hsp; exact ⟨σ', H', J'.ofTry ok, q⟩
    | ret u => obtain ⟨v, σ', H', J', r, q⟩ := hsp; exact ⟨v, σ', H', J'.ofTry ok, r, q⟩
end
end RW

set_option Elab.async false
set_option linter.all false
set_option maxRecDepth 100000
set_option maxHeartbeats 4000000
namespace RW
open PySem PySem.Spec PyProof.Rows L2
open Evl (Ex)
/-! ### a def that calls what it got, and tells how that ended -/
theorem takes_sized {X : Cx} {W : WX} (tk : Takes X W) : Takes X (fun cls d σ H => σ.length = X.N.length → W cls d σ H) := fun u s' ⟨a, B, sI, pins, σ, H, cls, d, e, I, nb, up, sky, na, os, ag, w⟩ =>
  tk u s' ⟨a, B, sI, pins, σ, H, cls, d, e, I, nb, up, sky, na, os, ag, w I.len⟩
/-- what it tells -/
inductive MR where
  | v (x : V)
  | t (xs : List V)
def Ret : MR → Hp → VK → Prop
  | .v x, H, Q => Q x H
  | .t xs, H, Q => ∀ b, H b = none → Q (.ref b) (upd H b (.tup xs))
def Dm (te0 : TE) (Q : VK) : Ends := { nx := fun σ' H' => te0 σ' H' Q, rt := Q }
def TMet (K : PySem.W.Frag) (l : List Clause) (te0 : TE) (r0 : MR) (m : Nat) : (XK → Hp → VK → Prop) → Hp → VK → Prop := fun tl H Q =>
  ∃ E : XK, (∀ cls d σ' H', E cls d H' → σ'.length = m → wMix K (fun _ _ _ _ => False) (Dm te0 Q) l cls d σ' H') ∧ tl E H fun _ H' => Ret r0 H' Q
theorem met_gives {X : Cx} {Ng : List Str} {x a q : Str} {sg : Scope} {g : Addr} {cdg : Value} {hds : List ExceptHandler} {h₀ : ExceptHandler} {l : List Clause} {e0 : Expr} {te0 : TE} {p1 p2 p3 p4 p5 : Pos}
    (hd : ∀ s H, HdX (cxOf C8.CX0 X.prog X.w X.K X.mg X.base Ng x sg g cdg X.A X.stack s H C8.E0).nox (h₀ :: hds) l) (he : ∀ s H, PE (cxOf C8.CX0 X.prog X.w X.K X.mg X.base Ng x sg g cdg X.A X.stack s H C8.E0).nox e0 te0)
    (h0 : ∀ f : Addr, (L2.start Ng [V.ref f])[0]? = some (some (V.ref f))) {r0 : MR} (hr0 : ∀ σ H Q, te0 σ H Q ↔ Ret r0 H Q) :
    LamX.GivesTo X Ng x sg g cdg [.Try [.Expr (.Call (.Name a p1) [] [] p2) p3] (h₀ :: hds) [] [] p4, .Return (some e0) p5] a q (TMet X.K l te0 r0 Ng.length) := by
  intro f c' s H Q tl act hc h
  obtain ⟨E, hE, ht⟩ := h
  refine ⟨_, pss_cons (ps_try_mix (X := (cxOf C8.CX0 X.prog X.w X.K X.mg X.base Ng x sg g cdg X.A X.stack s H C8.E0).nox)
    (tb := fun W D σ H => (∀ cls d σ' H', E cls d H' → σ'.length = Ng.length → W cls d σ' H') ∧ σ[0]? = some (some (.ref f)) ∧ H c' = some (LamX.CodeO c' q) ∧ tl E H fun _ H' => D.nx σ H') rfl rfl takes0 (fun W pn xe tk _ => ?_) (hd s H)) (pss_one (ps_ret (he s H))), ?_⟩
  · refine ⟨fun pins s' σ H' D I h' => ?_⟩
    obtain ⟨hW, h1, h2, h3⟩ := h'
    have hp := act (fun cls d σ' H' => σ'.length = Ng.length → W cls d σ' H') pn xe E p1 p2 (takes_sized tk) hW
    exact (pss_one (ps_expr (pos := p3) hp)).run pins s' σ H' D I ⟨h1, h2, h3⟩
  · refine ⟨fun cls d σ' H' e hl => hE cls d σ' H' e hl, h0 f, hc, ?_⟩
    show tl E H fun _ H' => te0 (L2.start Ng [V.ref f]) H' Q
    have e : (fun (_ : V) (H' : Hp) => te0 (L2.start Ng [V.ref f]) H' Q) = fun _ H' => Ret r0 H' Q := by
      funext _ H'
      exact propext (hr0 _ _ _)
    rw [e]; exact ht
def PayV (H : Hp) (d : Option Addr) : Option (Str × V) → Prop
  | none => True
  | some (f, v) => ∃ dd, d = some dd ∧ H dd = some (.xd [(f, v)])
def EMet (res : Addr → Option (Str × V) → MR → Prop) (Q : VK) : XK := fun cls d H' => ∃ C p r, cls = .ref C ∧ res C p r ∧ PayV H' d p ∧ Ret r H' Q
structure MetOk (TT : (XK → Hp → VK → Prop) → Hp → VK → Prop) (r0 : MR) (res : Addr → Option (Str × V) → MR → Prop) : Prop where
  run : ∀ tl H Q, (tl (EMet res Q) H fun _ H' => Ret r0 H' Q) → TT tl H Q
/-- r stands for d -/
def RepM (K : PySem.W.Frag) : MR → Dat → Prop
  | .v x, d => ∀ B, Rep K B x d
  | .t xs, d => ∃ ds, d = .tup ds ∧ ∀ B, Reps K B xs ds
section
variable {K : PySem.W.Frag} {env : Env1} {S S1 : List Dat} {x : Sl} {d : Dat} {T : List (Addr × Str)} {TT : (XK → Hp → VK → Prop) → Hp → VK → Prop} {t : XK → TE} {r0 r : MR} {res : Addr → Option (Str × V) → MR → Prop} {C : Addr} {p : Option (Str × Dat)}
  {B H B1 H1 : Hp} {as : List Addr}
theorem Ret.of {Q : VK} (hr : RepM K r d) (c : Ok K B1 H1 as S1) (e : Evo B H as B1 H1) (q : ∀ v B' H', Ok K B' H' as S1 → Evo B H as B' H' → RepS K B' as v (.d d) → Q v H') : Ret r H1 Q := by
  cases r with
  | v x => exact q x B1 H1 c e (hr B1)
  | t xs =>
    obtain ⟨ds, rfl, hds⟩ := hr
    exact fun b hb => q (.ref b) (upd B1 b (.tup xs)) _ (c.new hb) (e.trans (Evo.new c hb)) (.tup (Evl.st_of upd_same) (hds _))
def AllTabs (T : List (Addr × Str)) (S : List Dat) : Prop := TabsD T S ∧ ∀ (k : Nat) (P : Addr) (q : Str), S[k]? = some (.tab P q) → (P, q) ∈ T
theorem ev_met (M : MetOk TT r0 res) (hT : AllTabs T S) (h : ∀ E, Ev K (t E) env S x S1) (hr : RepM K r0 d) : Ev K (LamX.tLam T TT t) env S (.d d) S1 := fun B H as σ c g Q q =>
  ⟨c.tabs hT.1, fun H1 eN t1 => by
    obtain ⟨c1, e1⟩ := c.lam hT.1 hT.2 eN t1
    exact M.run _ _ _ (h _ _ H1 as σ c1 (g.mono e1.ex) _ fun v B2 H2 c2 e2 r2 => Ret.of hr c2 (e1.trans e2) q)⟩
theorem ev_metX (M : MetOk TT r0 res) (hT : AllTabs T S) (h : ∀ E, EvX K E (t E) env S C p S1) (hr : RepM K r d) (hres : ∀ B : Hp, match p with | none => res C none r | some (f, x) => ∀ v, Rep K B v x → res C (some (f, v)) r) :
    Ev K (LamX.tLam T TT t) env S (.d d) S1 := fun B H as σ c g Q q =>
  ⟨c.tabs hT.1, fun H1 eN t1 => by
    obtain ⟨c1, e1⟩ := c.lam hT.1 hT.2 eN t1
    refine M.run _ _ _ (h _ _ H1 as σ c1 (g.mono e1.ex) (fun dx B2 H2 c2 e2 pa => ?_) _)
    have R := Ret.of (Q := Q) hr c2 (e1.trans e2) q
    cases p with
    | none => exact ⟨C, none, r, rfl, hres B, trivial, R⟩
    | some fx =>
      obtain ⟨f, x⟩ := fx
      obtain ⟨dd, v, h1, h2, h3⟩ := pa
      exact ⟨C, some (f, v), r, rfl, hres B2 v h3, ⟨dd, h1, h2⟩, R⟩⟩
end
end RW

set_option Elab.async false
set_option linter.all false
set_option maxRecDepth 100000
set_option maxHeartbeats 4000000
/-! ### own exception classes with a field, straight over a built-in one (IndexError, OverflowError, ArithmeticError, LookupError) -/
namespace RW
open PySem PySem.Spec PyProof.Rows L2
open Evl (Ex)
section
open Builtin Builtin.ObjectAttr
variable {P : Program} {w : World} {A : Around} {R : Result → Shared → Prop} {h0 : Heap} {g : Array GenState} {dr : Drawn} {t : Nat} {os : OsState}
/-- the first store into such an object: its dict is made -/
theorem store_first {K : PySem.W.Frag} {f : Str} {tk : Tok} {v : Value} {x C : Addr} {fv : Array Value} {cd : ClassData} {B : String} {bm : List Value} (SF : StoreFacts B bm "object.__setattr__" "object")
    (X : K.In h0) (hx : h0.get? x = some { cls := .ref C, data := .fields fv }) (ho : PySem.W.excOver K C bm = true) (hcd : PySem.W.clsIn K C = some cd) (hh : cd.hasDict = true) (ha : PySem.W.findIn K (.ref C) f = some none)
    (hq : ∀ h1 tk1 dx, h1.get? x = some { cls := .ref C, dict := some dx, data := .fields fv } → h1.Ns1 dx (fun y => if y = f then some v else none) → dx ≠ x → h0.objs.size ≤ dx → (∀ b o, b ≠ x → h0.get? b = some o → h1.get? b = some o) → R (.ok (.ret .none)) ⟨h1, g, dr, tk1, os⟩) :
    codeAny (model P w) A (.call (.builtin "object.__setattr__") ⟨[.ref x, .str f tk, v], []⟩) R ⟨h0, g, dr, t, os⟩ := by
  have htk : PySem.W.takerIn K C f = some none := by unfold PySem.W.takerIn; rw [ha]; rfl
  have lc : PySem.W.Looks (model P w) h0 (classData C) cd := PySem.W.looks_clsIn X hcd
  have hs : x ≠ h0.objs.size := Nat.ne_of_lt (Heap.lt_size hx)
  refine PySem.W.osa_openX (od := none) SF X ⟨hx, rfl, rfl, trivial⟩ ho htk fun b => ?_
  show wpAny _ _ (storeInOwnDict (.ref x) (.ref C) (.str f tk) f v b) _ _ _
  obtain ⟨c1, c2, c3, c4, c5, hd, c6, c7, c8, c9, c10⟩ := cd
  obtain rfl : hd = true := hh
  unfold storeInOwnDict ownDictForStores
  repeat (first
    | with_reducible refine PySem.HandSPX.store_in_new ?_ ?_
    | with_reducible refine lc.at ?_
    | with_reducible refine wpAny_loadPart_at hx ?_
    | wp_step)
  · exact ⟨_, #[], _, (Heap.get?_update_ne _ _ _ _ hs.symm).trans (Heap.get?_push_at rfl rfl), rfl, fun z hz => absurd hz (by simp), fun _ => rfl⟩
  · intro h1 tk1 hn sb
    have old : ∀ {b o}, h0.get? b = some o → b ≠ h0.objs.size := fun e => Nat.ne_of_lt (Heap.lt_size e)
    refine hq h1 tk1 h0.objs.size ?_ hn hs.symm (Nat.le_refl _) fun b o hb e => ?_
    · rw [sb.2 x hs]
      exact Heap.get?_update_self _ (Heap.get?_push_of_some _ hx) rfl
    · rw [sb.2 b (old e), Heap.get?_update_ne _ _ _ _ hb]
      exact Heap.get?_push_of_some _ e
end
structure OexG (K : PySem.W.Frag) (C : Addr) : Prop where
  cls : ∃ (B newId initId : String) (bm : List Value), (ExcBaseFacts B newId initId bm ∧ StoreFacts B bm "object.__setattr__" "object" ∧ PySem.W.excTail bm bm = true) ∧
    ∃ nm q N bs sn sub ab col dd k0 k1 k2 k3 k5, K.lookup C = some (excClassObj nm q C N bs bm true sn sub ab col dd k0 k1 k2 k3 k5 newId)
  sa : PySem.W.findIn K (.ref C) "__setattr__" = some (some (.builtin "object.__setattr__"))
  exC : PySem.W.subIn K (.ref C) (.type "BaseException") = some true
  tyC : PySem.W.typeIn K (.ref C) = some (.type "type")
  kC : PySem.W.keepIn K (.ref C) = true
section
variable {X : Cx} {pins : List (Addr × Obj)} {σ : L2.St} {H : Hp} {s : Shared} {a C : Addr} {f : Str} {y : V} {u : Value} {Q : Unit → Shared → Prop} {E : Value → Shared → Prop} {A : Around}
/-- self.f = y on an exception that is being made -/
theorem xset_first (T : OexG X.K C) (I : Inv X pins σ H s) (e : H a = some (exo a C none)) (hno : PySem.W.findIn X.K (.ref C) f = some none) (ry : RelV y u)
    (q : ∀ dx s', dx ≠ a → H dx = none → Inv X pins σ (upd (upd H dx (exd dx [(f, y)])) a (exo a C (some dx))) s' → Q () s') : wpAny (model X.prog X.w) A (setAttr (.ref a) f u) Q E s := by
  obtain ⟨B, newId, initId, bm, ⟨_, SF, tl⟩, nm, qn, N, bs, sn, sub, ab, col, dd, k0, k1, k2, k3, k5, hC⟩ := T.cls
  have hcl : PySem.W.clsIn X.K C = some { name := nm, bases := bs, mro := .ref C :: bm, ns := N, qualname := qn, hasDict := true, slotNames := sn, subclasses := sub, abstract := ab, collection := col, hasDel := false } := by
    unfold PySem.W.clsIn
    rw [hC] <;> rfl
  have hov : PySem.W.excOver X.K C bm = true := by
    unfold PySem.W.excOver
    rw [hcl]
    simp [tl]
  obtain ⟨t1, ho⟩ := exo_at I.hok e
  obtain ⟨h0, g, dr, t, os⟩ := s
  refine PySem.W.set_plain I.kIn (od := none) ⟨ho, rfl, rfl, trivial⟩ T.sa (store_first SF I.kIn ho hov hcl rfl hno fun h1 tk1 dx hx hn dne dnew k => ?_)
  have hd : H dx = none := I.hok.fresh dnew
  have other : ∀ {b : Addr}, H b = none → b ≠ a := fun {b} n z => by rw [z, e] at n; cases n
  have young : ∀ {b : Addr} {o : Obj}, h0.get? b = some o → b ≠ dx := fun {b o} z => Nat.ne_of_lt (Nat.lt_of_lt_of_le (Heap.lt_size z) dnew)
  have same : ∀ {b : Addr} {o : HO}, H b = some o → o ≠ exo a C none → upd (upd H dx (exd dx [(f, y)])) a (exo a C (some dx)) b = some o := fun {b o} z n => by
    have ha : b ≠ a := fun w => by rw [w, e] at z; exact n (Option.some.inj z).symm
    rw [upd_ne ha, upd_ne (ne_of_none z hd)]; exact z
  refine q dx _ dne hd (I.un (t' := tk1) ⟨fun b o z n _ _ => k b o (other n) z, fun b o z n _ _ => ⟨o.slots, k b o (other n) z⟩, fun b o z n _ => ?_, fun b o z _ => ?_, fun b xs z => same z fun w => exo_tup w.symm, fun b o v z => same z fun w => exo_frz w.symm, fun b ps z => ⟨#[], ?_⟩⟩ fun b o z => ?_)
  · rw [upd_ne (other n), upd_ne (young z)]; exact n
  · by_cases hb : b = a
    · rw [hb]; exact ⟨_, hx⟩
    · exact ⟨o, k b o hb z⟩
  · rw [Array.append_empty]
    exact same z fun w => exo_tbl w.symm
  · by_cases hb : b = a
    · rw [hb, upd_same] at z
      cases z
      rw [hb]
      exact exo_ok hx
    · rw [upd_ne hb] at z
      by_cases hb2 : b = dx
      · rw [hb2, upd_same] at z
        cases z
        rw [hb2]
        exact exd_ok hn (relO_put (fs := []) ry fun _ => trivial)
      · rw [upd_ne hb2] at z
        refine (I.hok b o z).stay (fun c v hc zz => k c v ?_ zz) (fun c hc => same hc fun w => exo_own w.symm) fun c xs hc => same hc fun w => exo_tup w.symm
        rcases hc with rfl | hc
        · exact hb
        · exact at_ne e hc exo_own
end
/-- self.f = e, in such an __init__ -/
def tXset (K : PySem.W.Frag) (f : Str) (to te : TE) : TS := fun D σ H => te σ H fun y H1 => to σ H1 fun x H2 => ∃ a C : Addr, x = .ref a ∧ OexG K C ∧ PySem.W.findIn K (.ref C) f = some none ∧ H2 a = some (exo a C none) ∧
  ∀ dx, H2 dx = none → dx ≠ a → D.nx σ (upd (upd H2 dx (exd dx [(f, y)])) a (exo a C (some dx)))
theorem ps_xset {X : Cx} {o e : Expr} {to te : TE} {f : Str} {p' pos : Pos} (ho : PE X o to) (he : PE X e te) (hs : swapsWith e (some (.Attribute o f p')) pos.line X.env = pure false := by rfl) : PS X (.Assign [.Attribute o f p'] e pos) (tXset X.K f to te) := ⟨fun pins s σ H D I h => by
  refine plainObj_wpAny_Assign_Attribute (thn (he.run pins s σ H _ I h) fun v s1 q1 => ?_) hs
  obtain ⟨y, H1, I1, r1, q1⟩ := q1
  refine thn (ho.run pins s1 σ H1 _ I1 q1) fun u s2 q2 => ?_
  obtain ⟨x, H2, I2, r2, a, C, rfl, T, hno, ea, q⟩ := q2
  obtain rfl : u = Value.ref a := r2
  exact xset_first T I2 ea hno r1 fun dx s' ne n J => ⟨σ, _, J, q dx n ne⟩⟩
/-- C(e, ..): made, its __init__ run -/
theorem pmk_xi {X : Cx} {e : Expr} {es : List Expr} {ta : TA} {p pos : Pos} {cx : CXT} {x : Str} {C fI : Addr} {n : Nat} {fd : FuncData} {ps : List Str} {sp : Sp} (T : OexG X.K C) (iC : PySem.W.findIn X.K (.ref C) "__init__" = some (some (.ref fI)))
    (tI : PySem.W.typeIn X.K (.ref fI) = some (.type "function")) (F1 : FnOk X.prog X.w X.K X.mg X.base cx n fI fd ps sp) (hr : Room (n + 1) X.A) (hb : L2.Binds X.K fd ps []) (hx : Passes cx X (fun _ _ _ => False)) (hg : Gl X x) (hm : X.mg x = some (.ref C)) (ha : PA X (e :: es) ta)
    (hdb : (x == ("__debug__" : Str)) = false := by decide) (he : starEach (e :: es) X.env = (false, eval e X.env) :: starEach es X.env := by rfl) (hpl : (backTo pos (starEach es X.env)).any (·.1) = false := by rfl) :
    PMk X (.Call (.Name x p) (e :: es) [] pos) (tMkO C sp [] ta) := by
  intro pins s σ H Q I h
  obtain ⟨B, newId, initId, bm, ⟨FB, _, _⟩, nm, qn, N, bs, sn, sub, ab, col, dd, k0, k1, k2, k3, k5, hC⟩ := T.cls
  refine wpAny_Call_Name_kw (ld_glob I hg hm (PySem.W.callWith_K (h₀ := X.base) I.ok.mod.kin T.kC (thn (ha.run pos pins s σ H _ I h) fun us s1 q1 => ?_) he hpl) hdb)
  obtain ⟨vs, H1, I1, r1, hz, q1⟩ := q1
  refine ⟨I1.kIn, ?_⟩
  show wpAny _ _ (call (.ref C) us) _ _ _
  obtain ⟨h0, g, dr, tk, os⟩ := s1
  have big : h0.objs.size ≤ h0.objs.size + 1 := Nat.le_succ _
  have hq := q1 _ (I1.hok.fresh big)
  have got : ((h0.push (PySem.W.kdv_tup us)).push (PySem.HandSPX.excO C h0.objs.size)).get? (h0.objs.size + 1) = some (PySem.HandSPX.excO C h0.objs.size) := by heap_get
  have stay : ∀ b o, h0.get? b = some o → ((h0.push (PySem.W.kdv_tup us)).push (PySem.HandSPX.excO C h0.objs.size)).get? b = some o := fun b o z => Heap.get?_push_of_some _ (Heap.get?_push_of_some _ z)
  have I2 := I1.laid (t' := tk) (o := exo (h0.objs.size + 1) C none) stay big (exo_ok got)
  have rv : Vals (V.ref (h0.objs.size + 1) :: (vs ++ [])) (Value.ref (h0.objs.size + 1) :: (us ++ [])) := .cons rfl (r1.append .nil)
  have hl : (Value.ref (h0.objs.size + 1) :: us ++ []).length = ps.length := rv.length.symm.trans (F1.len _ _ _ _ hq)
  have hus : us.length ≤ sizeLine := by have := r1.length; rw [sizeLine_eq]; omega
  refine wpAny_call (PySem.HandSPX.call_own FB (fun _ => rfl) (I1.kIn _ _ hC) (PySem.W.looks_findIn I1.kIn iC) (fun self => PySem.W.bind_fn I1.kIn self tI) hus (codeAny_mono
    (F1.run _ X.stack _ _ ⟨Value.ref (h0.objs.size + 1) :: us, []⟩ _ _ _ (fun _ _ _ => False) (hr.make C us []) (I2.env0.make C us []) (hb _ (Value.ref (h0.objs.size + 1) :: us) I2.kIn hl) rv hq) fun r s' z => ?_))
  rcases r with er | fl
  · exact hx pins σ _ _ er s' I2 z
  · cases fl with
    | ret u =>
      obtain ⟨v, H2, os2, bare, un, hok, rv2, ev, d, fs, ea, ed, hd1, q2⟩ := z
      subst ev
      obtain ⟨h2, g2, d2, t2, os3⟩ := s'
      exact ⟨rv2, mk_end (raises_own T.exC T.tyC) I1 big stay un hok os2 bare ea ed hd1 q2⟩
    | next => exact z.elim
    | brk => exact z.elim
    | cont => exact z.elim
/-! ### the promise of such an __init__, and what a raise of it gives -/
def spXg (K : PySem.W.Frag) (C : Addr) (f : Str) : Sp := fun vs H Q _ => ∃ (a : Addr) (v : V), vs = [.ref a, v] ∧ OexG K C ∧ PySem.W.findIn K (.ref C) f = some none ∧ H a = some (exo a C none) ∧ ∀ dx, H dx = none → dx ≠ a → Q .non (upd (upd H dx (exd dx [(f, v)])) a (exo a C (some dx)))
theorem spxg_len {K : PySem.W.Frag} {C : Addr} {f : Str} : ∀ vs H Q E, spXg K C f vs H Q E → vs.length = 2 := fun vs H Q E ⟨a, v, e, _⟩ => by rw [e]; rfl
theorem spxg_body {K : PySem.W.Frag} {C : Addr} {f : Str} {N : List Str} {vs : List V} {H : Hp} {Q : VK} {E : XK} (h : spXg K C f vs H Q E) (hN : N.length = 2) : tXset K f (tVar 0) (tVar 1) { nx := fun _ H' => Q .non H', rt := Q } (start N vs) H := by
  obtain ⟨a, v, rfl, h1, h2, h3, q⟩ := h
  exact ⟨v, rfl, _, rfl, a, C, rfl, h1, h2, h3, q⟩
section
variable {K : PySem.W.Frag} {n : Nat} {tA : TA} {env : Env1} {S S1 : List Dat} {d : Dat} {P : Post} {u : TS} {E : XK} {C : Addr} {f : Str}
theorem mkg_want {B H : Hp} {as : List Addr} {σ : L2.St} (h : EvA K tA env S [.d d] S1) (oc : OexG K C) (hf : PySem.W.findIn K (.ref C) f = some none) (c : Ok K B H as S) (g : EnvR K B as σ env) (w : XWant K E B H as C (some (f, d)) S1) :
    tMkO C (spXg K C f) [] tA σ H fun cls d H' => E cls d H' := h B H as σ c g _ fun vs B1 H1 c1 e1 r1 => by
  cases r1 with
  | cons r1 rr =>
    rename_i v vs'
    cases rr
    refine ⟨by show 1 ≤ 1000; decide, fun a ha => ⟨a, v, rfl, oc, hf, upd_same, fun dx hdx hne => ⟨rfl, dx, [(f, v)], upd_same, by rw [upd_ne hne, upd_same], by rw [upd_ne hne] at hdx; exact hdx, ?_⟩⟩⟩
    rw [upd_ne hne] at hdx
    rw [xd_end ha hne]
    have hB := c1.Bnone hdx
    exact w (some dx) B1 _ (c1.other hB (c1.fresh hdx)) (e1.trans (Evo.refl.other (.of hdx))) ⟨dx, v, rfl, upd_same, r1⟩
/-- raise X(e) -/
theorem sp_raiseG (h : EvA K tA env S [.d d] S1) (oc : OexG K C) (hf : PySem.W.findIn K (.ref C) f = some none) (hP : P.ok = XOk K E (.exc C (some (f, d))) (S1.take n)) : SP K n (fun _ σ H => tMkO C (spXg K C f) [] tA σ H fun cls d H' => E cls d H') env S P :=
  fun B0 H0 as0 Bk B H as σ hl f0 c g D m => mkg_want h oc hf c g (m.want hP f0 hl rfl)
theorem sp_raiseGq (h : EvA K tA env S [.d d] S1) (oc : OexG K C) (hf : PySem.W.findIn K (.ref C) f = some none) (hP : P.ok = XOk K E (.exc C (some (f, d))) (S1.take n)) : SP K n (tSeq (fun _ σ H => tMkO C (spXg K C f) [] tA σ H fun cls d H' => E cls d H') u) env S P :=
  fun B0 H0 as0 Bk B H as σ hl f0 c g D m => mkg_want h oc hf c g (m.want hP f0 hl rfl)
end
/-! ### what is told of an exception may hang on the heap (a kept tuple) -/
def EMetH (res : Hp → Addr → Option (Str × V) → MR → Prop) (Q : VK) : XK := fun cls d H' => ∃ C p r, cls = .ref C ∧ res H' C p r ∧ PayV H' d p ∧ Ret r H' Q
structure MetOkH (TT : (XK → Hp → VK → Prop) → Hp → VK → Prop) (r0 : MR) (res : Hp → Addr → Option (Str × V) → MR → Prop) : Prop where
  run : ∀ tl H Q, (tl (EMetH res Q) H fun _ H' => Ret r0 H' Q) → TT tl H Q
section
variable {K : PySem.W.Frag} {env : Env1} {S S1 : List Dat} {x : Sl} {d : Dat} {T : List (Addr × Str)} {TT : (XK → Hp → VK → Prop) → Hp → VK → Prop} {t : XK → TE} {r0 r : MR} {res : Hp → Addr → Option (Str × V) → MR → Prop} {C : Addr} {p : Option (Str × Dat)}
theorem ev_metH (M : MetOkH TT r0 res) (hT : AllTabs T S) (h : ∀ E, Ev K (t E) env S x S1) (hr : RepM K r0 d) : Ev K (LamX.tLam T TT t) env S (.d d) S1 := fun B H as σ c g Q q =>
  ⟨c.tabs hT.1, fun H1 eN t1 => by
    obtain ⟨c1, e1⟩ := c.lam hT.1 hT.2 eN t1
    exact M.run _ _ _ (h _ _ H1 as σ c1 (g.mono e1.ex) _ fun v B2 H2 c2 e2 r2 => Ret.of hr c2 (e1.trans e2) q)⟩
theorem ev_metHX (M : MetOkH TT r0 res) (hT : AllTabs T S) (h : ∀ E, EvX K E (t E) env S C p S1) (hr : RepM K r d) (hres : ∀ H : Hp, match p with | none => res H C none r | some (f, x) => ∀ v, Rep K H v x → res H C (some (f, v)) r) :
    Ev K (LamX.tLam T TT t) env S (.d d) S1 := fun B H as σ c g Q q =>
  ⟨c.tabs hT.1, fun H1 eN t1 => by
    obtain ⟨c1, e1⟩ := c.lam hT.1 hT.2 eN t1
    refine M.run _ _ _ (h _ _ H1 as σ c1 (g.mono e1.ex) (fun dx B2 H2 c2 e2 pa => ?_) _)
    have R := Ret.of (Q := Q) hr c2 (e1.trans e2) q
    cases p with
    | none => exact ⟨C, none, r, rfl, hres H2, trivial, R⟩
    | some fx =>
      obtain ⟨f, x⟩ := fx
      obtain ⟨dd, v, h1, h2, h3⟩ := pa
      exact ⟨C, some (f, v), r, rfl, hres H2 v (h3.mono c2.ex), ⟨dd, h1, h2⟩, R⟩⟩
end
end RW

set_option Elab.async false
set_option linter.all false
set_option maxRecDepth 100000
set_option maxHeartbeats 4000000
namespace RW
open PySem PySem.Spec PyProof.Rows L2
open Evl (Ex)
/-! ### any value: what the checks of a program ask -/
/-- a value of a menu: known at any depth -/
inductive KD : Dat → Prop
  | non : KD .non
  | bl (b : Bool) : KD (.bl b)
  | int (i : Int) : KD (.int i)
  | str (s : Str) : KD (.str s)
  | dd : KD .dd
  | tup {xs : List Dat} (h : ∀ d ∈ xs, KD d) (l : xs.length ≤ 1000) : KD (.tup xs)
  | lst {xs : List Dat} (h : ∀ d ∈ xs, KD d) (l : xs.length ≤ 1000) : KD (.lst xs)
def isIntD : Dat → Bool
  | .int _ => true
  | .bl _ => true
  | _ => false
def isTupD : Dat → Bool
  | .tup _ => true
  | _ => false
def isStrD : Dat → Bool
  | .str _ => true
  | _ => false
def shD : Dat → Bool
  | .int i => decide (-(10 ^ 60) < i) && decide (i < 10 ^ 60)
  | _ => false
def lenD : Dat → Nat
  | .tup xs => xs.length
  | _ => 0
def innD : Dat → List Dat
  | .tup xs => xs
  | _ => []
section
variable {K : PySem.W.Frag} {env : Env1} {S : List Dat} {d : Dat} {i : Nat} {b c : Bool} {neg : Bool}
theorem KD.ty (h : KD d) : ∃ T, tyD d = some T := by cases h <;> exact ⟨_, rfl⟩
theorem ck_int (h : KD d) : CallD K (rIsi K) [.d d, .d (.ty "int")] S (.bl (isIntD d)) S := by
  cases h <;> first | exact cd_isi (b := true) rfl (by decide +kernel) | exact cd_isi (b := false) rfl (by decide +kernel)
theorem ck_tup (h : KD d) : CallD K (rIsi K) [.d d, .d (.ty "tuple")] S (.bl (isTupD d)) S := by
  cases h <;> first | exact cd_isi (b := true) rfl (by decide +kernel) | exact cd_isi (b := false) rfl (by decide +kernel)
theorem ck_str (h : KD d) : CallD K (rIsi K) [.d d, .d (.ty "str")] S (.bl (isStrD d)) S := by
  cases h <;> first | exact cd_isi (b := true) rfl (by decide +kernel) | exact cd_isi (b := false) rfl (by decide +kernel)
/-- what an own class asks of the built-in ones -/
structure KtC (K : PySem.W.Frag) (C : Addr) : Prop where
  non : PySem.W.kitOne K (.type "NoneType") (.ref C) = some false
  bl : PySem.W.kitOne K (.type "bool") (.ref C) = some false
  int : PySem.W.kitOne K (.type "int") (.ref C) = some false
  str : PySem.W.kitOne K (.type "str") (.ref C) = some false
  tup : PySem.W.kitOne K (.type "tuple") (.ref C) = some false
  lst : PySem.W.kitOne K (.type "list") (.ref C) = some false
  dd : PySem.W.kitOne K (.type "dict") (.ref C) = some false
theorem ck_own {C : Addr} (k : KtC K C) (h : KD d) : CallD K (rIsi K) [.d d, .d (.adr C)] S (.bl false) S := by
  cases h
  · exact cd_isiN rfl k.non
  · exact cd_isiN rfl k.bl
  · exact cd_isiN rfl k.int
  · exact cd_isiN rfl k.str
  · exact cd_isiN rfl k.dd
  · exact cd_isiN rfl k.tup
  · exact cd_isiN rfl k.lst
theorem o_isX_bl : Op2 K (rIsX neg) (.d (.bl c)) (.d (.bl b)) S (.bl (neg != decide (c = b))) := fun B H as v w k h1 h2 Q q => by
  cases h1; cases h2
  refine ⟨b, rfl, ?_⟩
  have e : decide (V.bl c = V.bl b) = decide (c = b) := by cases c <;> cases b <;> rfl
  rw [e]
  exact q _ B H k Evo.refl (.bl _)
theorem o_isX_blE {a : Bool} (h : (neg != decide (c = b)) = a) : Op2 K (rIsX neg) (.d (.bl c)) (.d (.bl b)) S (.bl a) := h ▸ o_isX_bl
theorem bad_int (v : Int) : (decide (v ≤ -(10 ^ 60)) || decide (10 ^ 60 ≤ v)) = !shD (.int v) := by
  have e1 : decide (v ≤ -(10 ^ 60)) = !decide (-(10 ^ 60) < v) := by
    by_cases h : -(10 ^ 60) < v
    · rw [decide_eq_true h, decide_eq_false (by omega)]; rfl
    · rw [decide_eq_false h, decide_eq_true (by omega)]; rfl
  have e2 : decide (10 ^ 60 ≤ v) = !decide (v < 10 ^ 60) := by
    by_cases h : v < 10 ^ 60
    · rw [decide_eq_true h, decide_eq_false (by omega)]; rfl
    · rw [decide_eq_false h, decide_eq_true (by omega)]; rfl
  rw [e1, e2]
  show (!_ || !_) = !(decide (-(10 ^ 60) < v) && decide (v < 10 ^ 60))
  rw [Bool.not_and]
/-- not isinstance(x, int) or x is True or x is False or x <= BENEATH or x >= BEYOND -/
theorem et_bad (hd : KD d) (he : env[i]? = some (some (.d d))) :
    EvT K (tOr (tNot (tTru K (tCB (rIsi K) (tCons (tVar i) (tCons (tC (.ty "int")) tNil))))) (tOr (tTest (tOp (rIsX false) (tVar i) (tC (.bl true)))) (tOr (tTest (tOp (rIsX false) (tVar i) (tC (.bl false))))
      (tOr (tTest (tOp (rI0 fun i j => V.bl (decide (i ≤ j))) (tVar i) (tC (.int (-(10 ^ 60)))))) (tTest (tOp (rI0 fun i j => V.bl (decide (j ≤ i))) (tVar i) (tC (.int (10 ^ 60))))))))) env S (!shD d) S := by
  have h1 : EvT K (tNot (tTru K (tCB (rIsi K) (tCons (tVar i) (tCons (tC (.ty "int")) tNil))))) env S (!isIntD d) S := et_not (et_bl (ev_cb (ea_cons (ev_var he) (ea_cons ev_ty ea_nil)) (ck_int hd)))
  by_cases hi : isIntD d = true
  · rw [hi] at h1
    cases d <;> first
      | (cases hi)
      | skip
    · rename_i v
      refine et_orP (a := false) (b := true) h1 fun _ => ?_
      cases v
      · exact et_orP (a := false) (b := true) (et_test (ev_op (ev_var he) ev_bl (o_isX_blE rfl))) fun _ => et_orP (a := true) (b := false) (et_test (ev_op (ev_var he) ev_bl (o_isX_blE rfl))) fun h => by cases h
      · exact et_orP (a := true) (b := false) (et_test (ev_op (ev_var he) ev_bl (o_isX_blE rfl))) fun h => by cases h
    · rename_i v
      refine et_orP (a := false) (b := !shD (.int v)) h1 fun _ => ?_
      refine et_orP (a := false) (b := !shD (.int v)) (et_test (ev_op (ev_var he) ev_bl o_isX_int)) fun _ => ?_
      refine et_orP (a := false) (b := !shD (.int v)) (et_test (ev_op (ev_var he) ev_bl o_isX_int)) fun _ => ?_
      exact (et_orP (a := decide (v ≤ -(10 ^ 60))) (b := decide (10 ^ 60 ≤ v)) (et_test (ev_op (ev_var he) ev_int o_le)) fun _ => et_test (ev_op (ev_var he) ev_int o_ge)).to (bad_int v)
  · have hf : isIntD d = false := by simpa using hi
    rw [hf] at h1
    have e : shD d = false := by cases d <;> first | rfl | (simp [isIntD] at hf)
    rw [e]
    exact et_orP (a := true) (b := false) h1 fun h => by cases h
end
/-! rows of any value -/
def rowB (n : Nat) : Dat → Bool
  | .tup xs => decide (xs.length = n) && xs.all shD
  | _ => false
def srB (d : Dat) (lo hi : Int) : Bool := match d with
  | .tup xs => decide (lo ≤ xs.length) && decide ((xs.length : Int) ≤ hi) && xs.all shD
  | _ => false
def asrB (v : Dat) (mr ml : Int) : Bool := match v with
  | .tup (r0 :: rs) => decide (((r0 :: rs).length : Int) ≤ mr) && (isTupD r0 && (decide (1 ≤ lenD r0) && decide ((lenD r0 : Int) ≤ ml)) && (r0 :: rs).all (rowB (lenD r0)))
  | _ => false
def intD : Dat → Int
  | .int i => i
  | _ => 0
def ascB : List (List Int) → Bool
  | [] => true
  | [_] => true
  | x :: y :: r => RwS.lx x y && ascB (y :: r)
def lotB (v : Dat) : Bool := asrB v 400 8 && ascB ((innD v).map fun r => (innD r).map intD)
def rdB : Dat → Bool
  | .tup [a, b] => lotB a && lotB b && decide (lenD ((innD a).getD 0 .non) = lenD ((innD b).getD 0 .non))
  | _ => false
theorem shD_int {d : Dat} (h : shD d = true) : d = .int (intD d) := by
  cases d <;> first | rfl | (simp [shD] at h)
theorem all_sh {xs : List Dat} (h : xs.all shD = true) : xs = (xs.map intD).map Dat.int := by
  induction xs with
  | nil => rfl
  | cons x xs ih =>
    rw [List.all_cons, Bool.and_eq_true] at h
    rw [List.map_cons, List.map_cons, ← ih h.2, ← shD_int h.1]
theorem asr_rows {v : Dat} {mr ml : Int} (h : asrB v mr ml = true) : ∃ (n : Nat) (rows : List (List Int)), v = .tup (rows.map fun r => Dat.tup (r.map Dat.int)) ∧ rows ≠ [] ∧ (rows.length : Int) ≤ mr ∧ 1 ≤ n ∧ (n : Int) ≤ ml ∧ (∀ r ∈ rows, r.length = n ∧ ∀ x ∈ r, -(10 ^ 60) < x ∧ x < 10 ^ 60) := by
  unfold asrB at h
  split at h
  · rename_i r0 rs
    simp only [Bool.and_eq_true, decide_eq_true_eq] at h
    obtain ⟨h1, ⟨h2, h3, h4⟩, h5⟩ := h
    refine ⟨lenD r0, (r0 :: rs).map fun r => (innD r).map intD, ?_, by simp, by simpa using h1, h3, h4, fun r hr => ?_⟩
    · congr 1
      rw [List.map_map]
      have key : ∀ l : List Dat, l.all (rowB (lenD r0)) = true → l = l.map ((fun r => Dat.tup (r.map Dat.int)) ∘ fun r => (innD r).map intD) := by
        intro l
        induction l with
        | nil => intro _; rfl
        | cons d l ih =>
          intro hl
          rw [List.all_cons, Bool.and_eq_true] at hl
          rw [List.map_cons, ← ih hl.2]
          congr 1
          cases d <;> first
            | (have := hl.1; simp [rowB] at this; done)
            | (rename_i xs
               have hx := hl.1
               unfold rowB at hx
               rw [Bool.and_eq_true] at hx
               exact congrArg Dat.tup (all_sh hx.2))
      exact key _ h5
    · obtain ⟨d, hd, rfl⟩ := List.mem_map.mp hr
      have hx := List.all_eq_true.mp h5 d hd
      cases d <;> first
        | (simp [rowB] at hx; done)
        | (rename_i xs
           unfold rowB at hx
           rw [Bool.and_eq_true, decide_eq_true_eq] at hx
           refine ⟨by show (List.map intD xs).length = _; rw [List.length_map]; exact hx.1, fun x hxm => ?_⟩
           obtain ⟨e, he, rfl⟩ := List.mem_map.mp hxm
           have hs := List.all_eq_true.mp hx.2 e he
           have e2 := shD_int hs
           rw [e2] at hs
           unfold shD at hs
           rw [Bool.and_eq_true, decide_eq_true_eq, decide_eq_true_eq] at hs
           exact hs)
  · cases h
/-! a promise with two cases -/
theorem spr_or {K : PySem.W.Frag} {G1 G2 : List Sl → List Dat → Out → List Dat → Prop} {vs : List V} {H : Hp} {Q : VK} {E : XK} (h : SpR K (fun ss S o S' => G1 ss S o S' ∨ G2 ss S o S') vs H Q E) : SpR K G1 vs H Q E ∨ SpR K G2 vs H Q E := by
  obtain ⟨B, as, S, ss, o, S', c, rs, g, q, qx⟩ := h
  rcases g with g | g
  · exact .inl ⟨B, as, S, ss, o, S', c, rs, g, q, qx⟩
  · exact .inr ⟨B, as, S, ss, o, S', c, rs, g, q, qx⟩
theorem passR {X : Cx} {E : XK} (tk : Takes X (fun cls d _ H => E cls d H)) : Passes (L2.CX X.prog X.w) X E := passes_call tk fun _ _ _ _ h => h
end RW

set_option Elab.async false
set_option linter.all false
set_option maxRecDepth 100000
set_option maxHeartbeats 4000000
namespace RW
open PySem PySem.Spec PyProof.Rows L2
open Evl (Ex)
/-- an expression that is never reached -/
theorem pe_no {X : Cx} {e : Expr} : PE X e (fun _ _ _ => False) := ⟨fun _ _ _ _ _ _ h => h.elim⟩
/-- one of several readings -/
theorem pe_any {X : Cx} {e : Expr} {ι : Type} {t : ι → TE} (h : ∀ i, PE X e (t i)) : PE X e (fun σ H Q => ∃ i, t i σ H Q) := ⟨fun pins s σ H Q I ⟨i, q⟩ => (h i).run pins s σ H Q I q⟩
/-! ### a local name that holds a def which may raise -/
structure HeldX (P : Program) (w : World) (K : PySem.W.Frag) (mg : Str → Option Value) (base : Heap) (k : Nat) (f : Addr) (sp : Sp) : Prop where
  ex : ∃ (fd : FuncData) (ps : List Str), FnOk P w K mg base (L2.CX P w) k f fd ps sp ∧ PySem.W.keepIn K (.ref f) = true ∧ Binds K fd ps []
def tCallX (i : Nat) (M : Addr → Option Sp) (E : XK) (t : TA) : TE := fun σ H Q => ∃ j : Addr × { sp : Sp // True }, M j.1 = some j.2.1 ∧ σ[i]? = some (some (.ref j.1)) ∧ t σ H fun vs H1 => j.2.1 (vs ++ []) H1 Q E
theorem pe_callLX {X : Cx} {k i : Nat} {M : Addr → Option Sp} {E : XK} {x : Str} {p pos : Pos} {e : Expr} {es : List Expr} {t : TA} (A : ∀ f sp, M f = some sp → HeldX X.prog X.w X.K X.mg X.base k f sp) (hr : Room k X.A) (hx : Passes (L2.CX X.prog X.w) X E) (ha : PA X (e :: es) t) (hN : X.N[i]? = some x := by rfl)
    (hv : Vis X.env.scope x := by first | exact Or.inl rfl | exact Or.inr (Or.inl rfl) | exact Or.inr (Or.inr rfl)) (hdb : (x == ("__debug__" : Str)) = false := by decide) (hcd : (x == ("__classdict__" : Str)) = false := by decide)
    (he : starEach (e :: es) X.env = (false, eval e X.env) :: starEach es X.env := by rfl) (hpl : (backTo pos (starEach es X.env)).any (·.1) = false := by rfl) : PE X (.Call (.Name x p) (e :: es) [] pos) (tCallX i M E t) := by
  refine ⟨fun pins s σ H Q I h => ?_⟩
  obtain ⟨⟨f, sp, _⟩, hM, hs, ht⟩ := h
  obtain ⟨fd, ps, F, hk, hb⟩ := (A f sp hM).ex
  exact (pe_callL (i := i) (f := f) (sp := sp) (dvs := []) (E := E) F hr hN hv hk hb .nil hx ha hdb hcd he hpl).run pins s σ H Q I ⟨hs, ht⟩
section
variable {K : PySem.W.Frag} {env : Env1} {S S1 S2 : List Dat} {d : Dat} {i : Nat} {tA : TA} {M : Addr → Option Sp} {E : XK} {f C : Addr} {p : Option (Str × Dat)} {G : List Sl → List Dat → Out → List Dat → Prop} {ss : List Sl} {te ta tb : TE}
theorem ev_callLR (hi : env[i]? = some (some (.d (.adr f)))) (hM : M f = some (SpR K G)) (h : EvA K tA env S ss S1) (hg : G ss S1 (.val d) S2) : Ev K (tCallX i M E tA) env S (.d d) S2 := fun B H as σ c g Q q => by
  obtain ⟨v, h1, h2⟩ := g.2 i _ hi
  cases h2
  exact ⟨(f, ⟨_, trivial⟩), hM, h1, ev_callR h hg B H as σ c g Q q⟩
theorem ev_callLX (hi : env[i]? = some (some (.d (.adr f)))) (hM : M f = some (SpR K G)) (h : EvA K tA env S ss S1) (hg : G ss S1 (.exc C p) S2) : EvX K E (tCallX i M E tA) env S C p S2 := fun B H as σ c g w Q => by
  obtain ⟨v, h1, h2⟩ := g.2 i _ hi
  cases h2
  exact ⟨(f, ⟨_, trivial⟩), hM, h1, ev_callX h hg B H as σ c g w Q⟩
/-- {} as a value -/
theorem ev_dd : Ev K tDNewT env S (.d .dd) S := fun B H as σ c g Q q => fun p hp =>
  q (.ref p) (upd B p (.dT [])) _ (c.new hp) (Evo.new c hp) (.dd upd_same)
/-- x * n of a text -/
def rMulS : R2 := fun x y H Q => ∃ a n, x = .str a ∧ y = .int n ∧ MulOk a n ∧ Q (.str (Txt.mul a n)) H
theorem op_mulS {X : Cx} : OpR X (binaryOp .Mult) rMulS := by
  intro pins s σ H x y v u Q I rx ry h
  obtain ⟨a, n, rfl, rfl, hm, q⟩ := h
  obtain ⟨t, rfl⟩ := rx
  obtain ⟨t2, rfl⟩ := ry
  exact SB.mul hm fun t' k => ⟨.str (Txt.mul a n), H, I.tok _, ⟨_, rfl⟩, q⟩
theorem o_mulS {a : Str} {n : Int} (h : MulOk a n) : Op2 K rMulS (.d (.str a)) (.d (.int n)) S (.str (Txt.mul a n)) := fun B H as v w c r1 r2 Q q => by
  cases r1; cases r2
  exact ⟨a, n, rfl, rfl, h, q _ B H c Evo.refl (.str _)⟩
end
/-! ### the end of a law with lambdas -/
structure LamEnd (l : PySem.W.OpenLaw) (q : Program) (w : World) (K : PySem.W.Frag) (k n : Nat) (x : Str) (mg : Str → Option Value) (fa : Addr) : Prop where
  ex : ∃ (fd : FuncData) (cs : List (Addr × Addr)) (sp : Sp), (∀ p ∈ cs, ∃ (y : Str) (d : DefRec), (recsOf q).find? (fun e => e.name == y) = some d ∧ PySem.W.tabIn K y = some p) ∧ (∀ p ∈ cs, K.lookup p.2 = none) ∧ (∀ (s : Shared) (u : Value), BindsTo s fd ⟨[u], []⟩ [(x, u)]) ∧
    (∀ (H : Hp) (a : Addr) (ns : List Int), ns.length ≤ n → (∀ z ∈ ns, Builtin.Int.intBits z ≤ 1048576) → (∀ p ∈ cs, H p.2 = some (.tbl #[])) → SqL K H a (ns.map V.int) → sp [.ref a] H (fun v _ => v = .bl true) fun _ _ _ => False) ∧
    ∀ base : Heap, K.In base → base.Ns mainGlobals mg → (∀ p ∈ cs, LamX.TabB base mg p.1 p.2) → FnOk l.prog w K mg base CX0 k fa fd [x] sp
theorem walk_lam {l : PySem.W.OpenLaw} {n k : Nat} {q : Program} {loose : List Str} {XP : (Str → Option Value) → Heap → Prop} {YP : World → Heap → Prop} {d : DefRec} {K : Params → PySem.W.Frag} {x : Str}
    (hn : l.most = some n) (hn2 : n ≤ sizeLine) (hdf : d.params.defaults = []) (hr : Room k callerA) (hY : ∀ (w : World) (h : Heap), YP w h → (K w.params).In h)
    (F : ∀ (w : World) (mg : Str → Option Value) (fa : Addr) (h : Heap), (K w.params).In h → h.Ns mainGlobals mg → mg d.name = some (.ref fa) → LamEnd l q w (K w.params) k n x mg fa) :
    PySem.W.WalkO q loose XP YP l.row.toRowW d [] (fun f vs => PySem.call f vs) := by
  refine Att.attach_callB hn hdf fun w s₀ s₁ mg mb fa o pm cd doc a vs ns G Y ho hd hcd hmg hobj hints hlen hbits hg => ?_
  have KX := hY w _ Y
  obtain ⟨fd, cs, sp, hT, nT, hb, hsp, hF⟩ := (F w mg fa _ KX G.T.g hmg).ex
  have key : ∀ p ∈ cs, PySem.W.CodeHd s₁.heap p.1 p.2 ∧ s₁.heap.get? p.2 = some (PySem.W.tabObj #[]) := fun p hp => by
    obtain ⟨y, d', h1, h2⟩ := hT p hp
    exact PySem.W.tab_of G.T KX h1 h2
  exact LamX.law_callTs KX G.T.g G.T.b G.T.builtins G.T.nolimit hg (fun p hp => (key p hp).2) nT (fun p hp => (key p hp).1) G.T.bmain hobj hints (Nat.le_trans hlen hn2) hr hF hb (fun H hH hS => hsp H a ns hlen hbits hH hS) fun H e s' z => z
/-! ### the start: the script, and the tables among what is changed -/
section
variable {K : PySem.W.Frag} {B H : Hp} {a : Addr} {ns : List Int} {Ts : List (Addr × Str)}
theorem tabs_ok (nd : (Ts.map (·.1)).Nodup) (hH : ∀ p ∈ Ts, H p.1 = some (.tbl #[])) (ex : Ex B H) (hB : ∀ p ∈ Ts, B p.1 = none) (nt : ∀ (a : Addr) (ps : Array Value), B a ≠ some (.tbl ps)) :
    Ok K B H (Ts.map (·.1)) (Ts.map fun p => Dat.tab p.1 p.2) := by
  have key : ∀ (k : Nat) (b : Addr) (s : Dat), (Ts.map (·.1))[k]? = some b → (Ts.map fun p => Dat.tab p.1 p.2)[k]? = some s → ∃ q, s = .tab b q ∧ (b, q) ∈ Ts := fun k b s h1 h2 => by
    rw [List.getElem?_map, Option.map_eq_some_iff] at h1 h2
    obtain ⟨p, hp, rfl⟩ := h1
    obtain ⟨p2, hp2, rfl⟩ := h2
    rw [hp] at hp2; cases hp2
    exact ⟨p.2, rfl, List.mem_of_getElem? hp⟩
  refine ⟨ex, by simp, fun k b s h1 h2 => ?_, nd, fun k b s o h1 h2 h3 => ?_, nt, fun k d P h hd => ?_⟩
  · obtain ⟨q, rfl, hm⟩ := key k b s h1 h2
    refine ⟨hB _ hm, _, hH _ hm, trivial, fun pos cv h => ?_⟩
    cases h
  · obtain ⟨q, rfl, hm⟩ := key k b s h1 h2
    rw [hH _ hm] at h3
    cases h3
    exact fun _ _ _ _ z => nomatch z
  · rw [List.getElem?_map, Option.map_eq_some_iff] at h
    obtain ⟨p, hp, rfl⟩ := h
    cases hd
    rw [List.getElem?_map, hp]; rfl
theorem tabs_start (nd : (Ts.map (·.1)).Nodup) (hH : ∀ p ∈ Ts, H p.1 = some (.tbl #[])) (hS : SqL K H a (ns.map V.int)) :
    ∃ B, Ok K B H (Ts.map (·.1)) (Ts.map fun p => Dat.tab p.1 p.2) ∧ Rep K B (.ref a) (.scr ns) := by
  rcases hS with h | h
  · have nt : ∀ ps : Array Value, H a ≠ some (.tbl ps) := fun ps e => by
      rcases h with h | ⟨o, h⟩ <;> rw [e] at h <;> cases h
    refine ⟨fun b => if b = a then H a else none, tabs_ok nd hH (fun b o e => ?_) (fun p hp => ?_) (fun b ps e => ?_), .scr (.inl ?_)⟩
    · split at e
      · rename_i hb
        rw [hb]; exact e
      · cases e
    · split
      · rename_i e
        rw [← e, hH p hp] at nt
        exact absurd rfl (nt _)
      · rfl
    · split at e
      · exact nt ps e
      · cases e
    · unfold Rd at h ⊢
      have e : (fun b => if b = a then H a else none) a = H a := if_pos rfl
      rw [e]
      exact h
  · exact ⟨fun _ => none, tabs_ok nd hH (fun b o e => by cases e) (fun _ _ => rfl) (fun _ _ e => by cases e), .scr (.inr h)⟩
theorem all_tabs : AllTabs Ts (Ts.map fun p => Dat.tab p.1 p.2) := by
  refine ⟨fun p hp => ?_, fun k P q h => ?_⟩
  · obtain ⟨k, hk⟩ := List.getElem?_of_mem hp
    exact ⟨k, by rw [List.getElem?_map, hk]; rfl⟩
  · rw [List.getElem?_map, Option.map_eq_some_iff] at h
    obtain ⟨p, hp, e⟩ := h
    cases e
    exact List.mem_of_getElem? hp
end
theorem tab_in {K : PySem.W.Frag} {x : Str} {f c P : Addr} {oc cc : Value} {od cd' : Option Addr} {fd : FuncData} {sl csl : Array (Option Value)} {vs : Array Value} (h1 : PySem.W.nsIn K mainGlobals x = some (some (.ref f))) (h2 : K.lookup f = some ⟨oc, od, .func fd, sl⟩) (h3 : fd.code = .ref c)
    (h4 : K.lookup c = some ⟨cc, cd', .fields vs, csl⟩) (h5 : (vs[11]? : Option Value) = some (.ref P)) : PySem.W.tabIn K x = some (c, P) := by
  unfold PySem.W.tabIn
  rw [h1]
  dsimp only
  rw [h2]
  dsimp only
  rw [h3]
  dsimp only
  rw [h4]
  dsimp only
  rw [h5]
theorem exm_of {K : PySem.W.Frag} {C D : Addr} {b : Bool} (be : PySem.W.subIn K (.ref D) (.type "BaseException") = some true) (ic : PySem.W.isClsIn K D = true) (ty : PySem.W.typeIn K (.ref D) = some (.type "type")) (sb : PySem.W.subIn K (.ref C) (.ref D) = some b) :
    PySem.W.exmOne K (.ref C) (.ref D) = some b := by
  unfold PySem.W.exmOne
  rw [be, if_pos (by simp)]
  unfold PySem.W.kitCls
  have h4 : (PySem.W.clsIn K D).isSome = true := ic
  dsimp only
  rw [h4, ty, if_pos (by simp), sb]
theorem rec_of {q : Program} {y : Str} (h : ((recsOf q).find? fun e => e.name == y).isSome = true) : ∃ d : DefRec, (recsOf q).find? (fun e => e.name == y) = some d := Option.isSome_iff_exists.mp h
end RW

set_option Elab.async false
set_option linter.all false
set_option maxRecDepth 100000
set_option maxHeartbeats 4000000
namespace RW
open PySem PySem.Spec PyProof.Rows L2
open Evl (Ex)
/-! ### defs that are run where nothing is being shown (repr of a tuple or a list wants to know it) -/
abbrev Calm (A : Around) : Prop := A.guards = some []
structure FnG (P : Program) (w : World) (K : PySem.W.Frag) (mg : Str → Option Value) (base : Heap) (cx : CXT) (n : Nat) (f : Addr) (fd : FuncData) (ps : List Str) (sp : Sp) : Prop where
  many : ∀ xs H Q E, sp xs H Q E → xs.length = ps.length
  does : ∀ (A : Around) (up : List Env) (t : Shared) (H : Hp) (args : Args) (us : List Value) (xs : List V) (Q : VK) (E : XK), Calm A → Room n A → Env0 P w K mg base A up t H → Vals xs us → BindsTo t fd args (ps.zip us) → sp xs H Q E →
    codeAny (model P w) A (.call (.ref f) args) (CR cx up P w H t Q E) t
section
variable {P : Program} {w : World} {K : PySem.W.Frag} {mg : Str → Option Value} {base : Heap} {cx : CXT} {n : Nat} {f : Addr} {fd : FuncData} {ps : List Str} {sp : Sp}
theorem FnG.of (F : FnOk P w K mg base cx n f fd ps sp) : FnG P w K mg base cx n f fd ps sp :=
  ⟨F.len, fun A up t H args us xs Q E _ hr e hv hb hs => F.run A up t H args us xs Q E hr e hb hv hs⟩
/-- a def by its body, as long as nothing is being shown around it -/
theorem fng_body {name qual : Str} {prm : Arguments} {body : List Stmt} {sc : Scope} {v1 v2 v3 v4 cdv ct oc : Value} {an od : Option Addr} {osl : Array (Option Value)} {N : List Str}
    (lk : K.lookup f = some ⟨oc, od, .func (PySem.W.fnOf name qual prm body sc v1 v2 v3 v4 an cdv ct), osl⟩) (hcd : PySem.W.codeIn K cdv qual = true) (S : FnScope N ps sc) (many : ∀ xs H Q E, sp xs H Q E → xs.length = ps.length)
    (hb : ∀ (A : Around) (up : List Env) (t : Shared) (H : Hp) (xs : List V) (Q : VK) (E : XK), Calm (A.deeper (envOfC qual sc t.heap.objs.size f cdv)) → Room n (A.deeper (envOfC qual sc t.heap.objs.size f cdv)) → sp xs H Q E →
      ∃ r, PSs (cxOf cx P w K mg base N qual sc f cdv A up t H E) body r ∧ r { rt := Q, nx := fun _ T => Q .non T } (start N xs) H) :
    FnG P w K mg base cx (n + 1) f (PySem.W.fnOf name qual prm body sc v1 v2 v3 v4 an cdv ct) ps sp where
  many := many
  does := fun A up t H args us xs Q E hc hr e0 rv hargs hsp => by
    have hK : K.In t.heap := e0.mod.kin.keeps fun a o h => (e0.bs a o h).1
    refine codeAny_call_function hr.depth (hK _ _ lk) rfl S.co S.gen rfl (PySem.W.codeRec_of hK hcd) (hargs _ _ _ _ (wpAny_newFunctionEnv_cells S.kind (fun z hz => ?_) fun env he t1 fresh => ?_))
    · have hp := (List.of_mem_zip (show (z.1, z.2) ∈ ps.zip us from hz)).1
      exact (S.par _ hp).imp id fun h => ⟨h, PySem.W.cellsFrom_some _ _ _ (.inl h)⟩
    · subst he
      have hno : t.heap.NoLimit := e0.mod.nolimit.keeps fun a o h => (e0.bs a o h).1
      obtain ⟨r, hp, hq⟩ := hb A up t H xs Q E hc (hr.deeper _) hsp
      have J := inv_start (CX := cx) (E := E) S hr.hd e0 (many _ _ _ _ hsp) rv fresh
      refine ⟨hno.keeps fresh.toInCall.keep, codeAny_func (wpAny_mono (hp.run [] t1 _ H _ J hq) (fun fl t2 z => ?_) fun _ _ z => z)⟩
      cases fl with
      | next =>
        obtain ⟨_, H2, I2, q2⟩ := z
        exact ⟨.non, H2, I2.os, I2.bare, I2.base, I2.hok, rfl, q2⟩
      | ret u =>
        obtain ⟨x, _, H2, I2, ru, q2⟩ := z
        exact ⟨x, H2, I2.os, I2.bare, I2.base, I2.hok, ru, q2⟩
      | brk =>
        obtain ⟨_, _, _, no⟩ := z
        exact no.elim
      | cont =>
        obtain ⟨_, _, _, no⟩ := z
        exact no.elim
end
section
variable {X : Cx} {cx : CXT} {n : Nat} {f : Addr} {fd : FuncData} {ps : List Str} {sp : Sp} {E : XK} {x : Str} {p pos : Pos} {e : Expr} {es : List Expr} {t : TA}
/-- f(..) of such a def -/
theorem pe_callG (F : FnG X.prog X.w X.K X.mg X.base cx n f fd ps sp) (hc : Calm X.A) (hr : Room n X.A) (hg : Gl X x) (hm : X.mg x = some (.ref f)) (hk : PySem.W.keepIn X.K (.ref f) = true) (hb : L2.Binds X.K fd ps []) (hx : Passes cx X E) (ha : PA X (e :: es) t)
    (hdb : (x == ("__debug__" : Str)) = false := by decide) (he : starEach (e :: es) X.env = (false, eval e X.env) :: starEach es X.env := by rfl) (hpl : (backTo pos (starEach es X.env)).any (·.1) = false := by rfl) :
    PE X (.Call (.Name x p) (e :: es) [] pos) (tCall sp [] E t) := ⟨fun pins s σ H Q I h => by
  refine wpAny_Call_Name_kw (ld_glob I hg hm (PySem.W.callWith_K (h₀ := X.base) I.ok.mod.kin hk (thn (ha.run pos pins s σ H _ I h) fun us s1 q1 => ?_) he hpl) hdb)
  obtain ⟨xs, H1, I1, rv, hs⟩ := q1
  rw [List.append_nil] at hs
  have hn : us.length = ps.length := rv.length.symm.trans (F.many _ _ _ _ hs)
  have hbt : BindsTo s1 fd ⟨us, []⟩ (ps.zip us) := by
    have z := hb s1 us I1.kIn (by rw [List.append_nil]; exact hn)
    rwa [List.append_nil] at z
  refine ⟨I1.kIn, wpAny_call (codeAny_mono (F.does X.A X.stack s1 H1 ⟨us, []⟩ us xs Q E hc hr I1.env0 rv hbt hs) fun r s2 hq => ?_)⟩
  rcases r with err | fl
  · exact hx pins σ H1 s1 err s2 I1 hq
  · cases fl <;> first | exact I1.after hq | exact hq.elim⟩
end
/-! ### the law's end -/
section
variable {P : Program} {w : World} {K : PySem.W.Frag} {mg mb : Str → Option Value} {cx : CXT} {n : Nat} {fa a : Addr} {cs : List (Addr × Addr)} {fd : FuncData} {x : Str} {sp : Sp} {s : Shared} {vs : List Value} {ns : List Int}
/-- what is tracked when the law starts: the tables, and the script where the text doesn't hold it -/
def H1st (K : PySem.W.Frag) (cs : List (Addr × Addr)) (a : Addr) (vs : List Value) (ns : List Int) : Hp := fun b =>
  if b ∈ cs.map (·.2) then some (.tbl #[]) else if b = a ∧ K.lookup a = none then some (.frz { cls := .type "list", data := .seq vs.toArray } (.lst (ns.map V.int))) else none
theorem h1_tab {b : Addr} (h : b ∈ cs.map (·.2)) : H1st K cs a vs ns b = some (.tbl #[]) := if_pos h
theorem h1_a (h : a ∉ cs.map (·.2)) (hk : K.lookup a = none) : H1st K cs a vs ns a = some (.frz { cls := .type "list", data := .seq vs.toArray } (.lst (ns.map V.int))) := (if_neg h).trans (if_pos ⟨rfl, hk⟩)
theorem h1_some {b : Addr} {u : HO} (h : H1st K cs a vs ns b = some u) : (b ∈ cs.map (·.2) ∧ u = .tbl #[]) ∨ (b = a ∧ K.lookup a = none ∧ u = .frz { cls := .type "list", data := .seq vs.toArray } (.lst (ns.map V.int))) := by
  unfold H1st at h
  split at h
  · next hb => exact .inl ⟨hb, (Option.some.inj h).symm⟩
  · split at h
    · next hb => exact .inr ⟨hb.1, hb.2, (Option.some.inj h).symm⟩
    · cases h
structure Start1 (K : PySem.W.Frag) (mg mb : Str → Option Value) (cs : List (Addr × Addr)) (a : Addr) (vs : List Value) (ns : List Int) (s : Shared) : Prop where
  kin : K.In s.heap
  glob : s.heap.Ns mainGlobals mg
  blt : s.heap.Ns builtinsNs mb
  blt2 : ∀ x : Str, x ≠ "__name__" → mb x = bootBuiltins x
  nolim : s.heap.NoLimit
  gens : s.gens = #[]
  tab : ∀ p ∈ cs, s.heap.get? p.2 = some { cls := .none, data := .fields #[] }
  ntab : ∀ p ∈ cs, K.lookup p.2 = none
  code : ∀ p ∈ cs, PySem.W.CodeHd s.heap p.1 p.2
  bmod : ∃ (bm : Addr) (ob : Obj), mg "__builtins__" = some (.ref bm) ∧ bm ≠ builtinsNs ∧ s.heap.get? bm = some ob ∧ ob.cls = .type "module" ∧ ob.dict = some builtinsNs ∧ ob.data = .plain
  obj : s.heap.get? a = some { cls := .type "list", data := .seq vs.toArray }
  are : IntsAre vs ns
  len : ns.length ≤ sizeLine
variable (Z : Start1 K mg mb cs a vs ns s)
include Z
theorem Start1.tabAt {b : Addr} (h : b ∈ cs.map (·.2)) : s.heap.get? b = some { cls := .none, data := .fields #[] } := by
  obtain ⟨q, hq, rfl⟩ := List.mem_map.mp h
  exact Z.tab q hq
theorem Start1.notTab : a ∉ cs.map (·.2) := fun h => by
  have h2 := (Z.tabAt h).symm.trans Z.obj
  have h3 := congrArg Obj.data (Option.some.inj h2)
  cases h3
/-- what is neither a list nor an empty table is not tracked -/
theorem Start1.off {b : Addr} {o : Obj} (e : s.heap.get? b = some o) (h1 : ∀ its k, o.data ≠ .seq its k) (h2 : o.data ≠ .fields #[]) : H1st K cs a vs ns b = none := by
  cases h : H1st K cs a vs ns b with
  | none => rfl
  | some u =>
    rcases h1_some h with ⟨hb, _⟩ | ⟨rfl, _, _⟩
    · have z := e.symm.trans (Z.tabAt hb)
      cases z
      exact absurd rfl h2
    · have z := e.symm.trans Z.obj
      cases z
      exact absurd rfl (h1 _ _)
theorem Start1.free {b : Addr} {o : Obj} (h : K.lookup b = some o) : H1st K cs a vs ns b = none := by
  cases e : H1st K cs a vs ns b with
  | none => rfl
  | some u =>
    rcases h1_some e with ⟨hb, _⟩ | ⟨rfl, hk, _⟩
    · obtain ⟨q, hq, rfl⟩ := List.mem_map.mp hb
      rw [Z.ntab q hq] at h; cases h
    · rw [hk] at h; cases h
theorem Start1.keepNs {b : Addr} {m : Str → Option Value} (h : s.heap.Ns b m) : (hidT s.heap (H1st K cs a vs ns)).Ns b m := by
  obtain ⟨o, es, k, e, hd, r⟩ := h
  refine ⟨o, es, k, hidT_get e (Z.off e (fun its j z => ?_) fun z => ?_), hd, r⟩ <;> (rw [hd] at z; cases z)
theorem Start1.mod : L2.Mod K mg (hidT s.heap (H1st K cs a vs ns)) where
  kin := fun b o e => hidT_get (Z.kin b o e) (Z.free e)
  glob := Z.keepNs Z.glob
  blt := ⟨mb, Z.keepNs Z.blt, Z.blt2⟩
  nolimit := by
    obtain ⟨m, h1, h2⟩ := Z.nolim
    exact ⟨m, Z.keepNs h1, h2⟩
theorem Start1.tabB {p : Addr × Addr} (hp : p ∈ cs) : LamX.TabB (hidT s.heap (H1st K cs a vs ns)) mg p.1 p.2 where
  code := by
    obtain ⟨o, us, fi, tf, fl, tg, b, tx, tt, e1, e2, e3, e4, r⟩ := Z.code p hp
    refine ⟨o, us, fi, tf, fl, tg, b, tx, tt, hidT_get e1 (Z.off e1 (fun its j z => ?_) fun z => ?_), e2, e3, e4, r⟩
    · rw [e3] at z; cases z
    · rw [e3] at z
      cases z
      simp at e4
  bm := by
    obtain ⟨bm, ob, h1, h2, h3, h4, h5, h6⟩ := Z.bmod
    refine ⟨bm, ob, h1, h2, fun z => ?_, fun z => ?_, hidT_get h3 (Z.off h3 (fun its j z => ?_) fun z => ?_), h4, h5, h6⟩
    · obtain ⟨o, es, k, e, hd, _⟩ := Z.glob
      rw [z] at h3
      have y := h3.symm.trans e
      cases y
      rw [h6] at hd; cases hd
    · rw [z] at h3
      have y := h3.symm.trans (Z.tab p hp)
      cases y
      cases h6
    · rw [h6] at z; cases z
    · rw [h6] at z; cases z
  gP := fun z => by
    obtain ⟨o, es, k, e, hd, _⟩ := Z.glob
    rw [z] at e
    have y := e.symm.trans (Z.tab p hp)
    cases y
    cases hd
theorem Start1.hok : HOk P w (H1st K cs a vs ns) s.heap := fun b u h => by
  rcases h1_some h with ⟨hb, rfl⟩ | ⟨rfl, _, rfl⟩
  · exact Z.tabAt hb
  · exact ⟨Z.obj, by rw [List.length_map]; exact Z.len, vs, _, vals_ints Z.are, Z.obj⟩
theorem Start1.sq : SqL K (H1st K cs a vs ns) a (ns.map V.int) := by
  cases hk : K.lookup a with
  | none => exact .inl (.inr ⟨_, h1_a Z.notTab hk⟩)
  | some o =>
    have y := (Z.kin a o hk).symm.trans Z.obj
    cases y
    refine .inr ⟨_, vs.toArray, _, hk, rfl, rfl, rfl, ?_, by simpa using vals_ints Z.are⟩
    rw [List.size_toArray, Z.are.length]; exact Z.len
theorem Start1.env0 : Env0 P w K mg (hidT s.heap (H1st K cs a vs ns)) callerA [] s (H1st K cs a vs ns) where
  frames := rfl
  mod := Z.mod
  bs := fun b o e => of_hidT e
  bsz := Nat.le_of_eq (hidT_size _ _)
  funs := trivial
  frf := fun b hb => (List.not_mem_nil (show b ∈ ([] : List Addr) from hb)).elim
  hok := Z.hok
  bare := .of_eq Z.gens
theorem Start1.old {H' : Hp} {s' : Shared} (un : Un (frs []) [] (H1st K cs a vs ns) H' s.heap s'.heap) (hok' : HOk P w H' s'.heap) : OldK s.heap s'.heap := by
  have stays : ∀ {b : Addr} {o : Obj}, b ∉ cs.map (·.2) → s.heap.get? b = some o → s'.heap.get? b = some o := fun {b o} nb e => by
    cases h : H1st K cs a vs ns b with
    | none => exact un.keep b o e h (List.not_mem_nil (a := b)) (List.not_mem_nil (a := b))
    | some u =>
      rcases h1_some h with ⟨hb, _⟩ | ⟨rfl, _, rfl⟩
      · exact absurd hb nb
      · have y := e.symm.trans Z.obj
        cases y
        exact (hok' _ _ (un.frzs _ _ _ h)).1
  have more : ∀ {b : Addr}, b ∈ cs.map (·.2) → ∃ us : Array Value, s'.heap.get? b = some { cls := .none, data := .fields us } := fun {b} hb => by
    obtain ⟨us, h⟩ := un.tbls b #[] (h1_tab hb)
    exact ⟨_, hok' b _ h⟩
  refine ⟨fun b o e => ?_, fun b o e => ?_⟩ <;> by_cases hb : b ∈ cs.map (·.2)
  · obtain ⟨us, hm⟩ := more hb
    have y := e.symm.trans (Z.tabAt hb)
    cases y
    obtain ⟨p, hp, rfl⟩ := List.mem_map.mp hb
    exact .inr (.inl ⟨((Z.code p hp).tab (Z.tab p hp)).isCodeTable, rfl, #[], us, rfl, by rw [Array.empty_append]; exact hm⟩)
  · exact .inl (stays hb e)
  · obtain ⟨us, hm⟩ := more hb
    exact ⟨_, hm⟩
  · exact ⟨o, stays hb e⟩
theorem Start1.runs (hr : Room n callerA) (F : ∀ h : Heap, K.In h → h.Ns mainGlobals mg → (∀ p ∈ cs, LamX.TabB h mg p.1 p.2) → FnG P w K mg h cx n fa fd [x] sp) (hbind : ∀ (t : Shared) (u : Value), BindsTo t fd ⟨[u], []⟩ [(x, u)])
    (hsp : ∀ H : Hp, (∀ p ∈ cs, H p.2 = some (.tbl #[])) → SqL K H a (ns.map V.int) → sp [.ref a] H (fun v _ => v = .bl true) fun _ _ _ => False) (hCX : ∀ H e t, cx [] H s (fun _ _ _ => False) e t → False) :
    codeAny (model P w) callerA (.call (.ref fa) ⟨[.ref a], []⟩) (fun r t => r = .ok (.ret (.bool true)) ∧ OldK s.heap t.heap ∧ t.os = s.os ∧ AllBare t.gens) s := by
  have M := Z.mod
  have hq := hsp _ (fun p hp => h1_tab (List.mem_map_of_mem hp)) Z.sq
  refine codeAny_mono ((F _ M.kin M.glob fun p hp => Z.tabB hp).does callerA [] s _ ⟨[.ref a], []⟩ [.ref a] [.ref a] _ _ rfl hr Z.env0 (.cons rfl .nil) (hbind s (.ref a)) hq) fun r t h => ?_
  rcases r with err | fl
  · exact (hCX _ err t h).elim
  · cases fl with
    | ret u =>
      obtain ⟨v, H', os, bare, un, ok', rv, hv⟩ := h
      have hv : v = .bl true := hv
      subst hv
      obtain rfl : u = Value.bool true := rv
      exact ⟨rfl, Z.old un ok', os, bare⟩
    | next => exact h.elim
    | brk => exact h.elim
    | cont => exact h.elim
end
structure LamEndG (l : PySem.W.OpenLaw) (q : Program) (w : World) (K : PySem.W.Frag) (k n : Nat) (x : Str) (mg : Str → Option Value) (fa : Addr) : Prop where
  ex : ∃ (fd : FuncData) (cs : List (Addr × Addr)) (sp : Sp), (∀ p ∈ cs, ∃ (y : Str) (d : DefRec), (recsOf q).find? (fun e => e.name == y) = some d ∧ PySem.W.tabIn K y = some p) ∧ (∀ p ∈ cs, K.lookup p.2 = none) ∧ (∀ (s : Shared) (u : Value), BindsTo s fd ⟨[u], []⟩ [(x, u)]) ∧
    (∀ (H : Hp) (a : Addr) (ns : List Int), ns.length ≤ n → (∀ z ∈ ns, Builtin.Int.intBits z ≤ 1048576) → (∀ p ∈ cs, H p.2 = some (.tbl #[])) → SqL K H a (ns.map V.int) → sp [.ref a] H (fun v _ => v = .bl true) fun _ _ _ => False) ∧
    ∀ base : Heap, K.In base → base.Ns mainGlobals mg → (∀ p ∈ cs, LamX.TabB base mg p.1 p.2) → FnG l.prog w K mg base CX0 k fa fd [x] sp
theorem walk_lamG {l : PySem.W.OpenLaw} {n k : Nat} {q : Program} {loose : List Str} {XP : (Str → Option Value) → Heap → Prop} {YP : World → Heap → Prop} {d : DefRec} {K : Params → PySem.W.Frag} {x : Str}
    (hn : l.most = some n) (hn2 : n ≤ sizeLine) (hdf : d.params.defaults = []) (hr : Room k callerA) (hY : ∀ (w : World) (h : Heap), YP w h → (K w.params).In h)
    (F : ∀ (w : World) (mg : Str → Option Value) (fa : Addr) (h : Heap), (K w.params).In h → h.Ns mainGlobals mg → mg d.name = some (.ref fa) → LamEndG l q w (K w.params) k n x mg fa) :
    PySem.W.WalkO q loose XP YP l.row.toRowW d [] (fun f vs => PySem.call f vs) := by
  refine Att.attach_callB hn hdf fun w s₀ s₁ mg mb fa o pm cd doc a vs ns G Y ho hd hcd hmg hobj hints hlen hbits hg => ?_
  have KX := hY w _ Y
  obtain ⟨fd, cs, sp, hT, nT, hb, hsp, hF⟩ := (F w mg fa _ KX G.T.g hmg).ex
  have key : ∀ p ∈ cs, PySem.W.CodeHd s₁.heap p.1 p.2 ∧ s₁.heap.get? p.2 = some (PySem.W.tabObj #[]) := fun p hp => by
    obtain ⟨y, d', h1, h2⟩ := hT p hp
    exact PySem.W.tab_of G.T KX h1 h2
  have Z : Start1 (K w.params) mg mb cs a vs ns s₁ := ⟨KX, G.T.g, G.T.b, G.T.builtins, G.T.nolimit, hg, fun p hp => (key p hp).2, nT, fun p hp => (key p hp).1, G.T.bmain, hobj, hints, Nat.le_trans hlen hn2⟩
  exact Z.runs hr hF hb (fun H hH hS => hsp H a ns hlen hbits hH hS) fun H e s' z => z
/-! ### repr of numbers, texts, None, tuples and lists -/
def rReprD (K : PySem.W.Frag) : List V → Hp → VK → Prop := fun xs H Q => ∃ v d, xs = [v] ∧ Dp K H v d ∧ (d.canLay0 = true ∧ d.showable = true ∧ d.depth ≤ 60 ∧ d.shown.length ≤ sizeLine) ∧ Q (.str d.shown) H
theorem call_reprD {X : Cx} (K : PySem.W.Frag) (hc : Calm X.A) (hu : X.A.units + 64 < cLine) (hK : X.K = K := by rfl) : CallR X (.builtin "repr") (rReprD K) := by
  subst hK
  intro pins s σ H xs us Q I r h
  obtain ⟨v, d, rfl, hd, ⟨h1, h2, h3, h4⟩, q⟩ := h
  obtain ⟨u, rfl, ru⟩ := vals1 r
  obtain ⟨as, rd⟩ := Dp.reads I d v u hd ru
  have nd := PyData.noDict_hsm (as := as) (PyData.hasDict_of_canLay d h1)
  have tell : ∀ {t : Tok} {tk : Nat}, EP X pins σ Q (.str d.shown t) { s with toks := tk } := fun {t tk} => ⟨.str _, H, I.tok _, ⟨_, rfl⟩, q⟩
  cases hd with
  | non => cases ru; exact PySem.P.repr_of_none tell
  | bl b => cases ru; exact PySem.P.repr_of_bool tell
  | int i =>
    obtain ⟨t, rfl⟩ := ru
    exact PySem.P.repr_of_int (of_decide_eq_true h2) tell
  | str x =>
    obtain ⟨t, rfl⟩ := ru
    exact PySem.P.repr_of_str tell h4
  | lst hs ha =>
    cases ru
    exact repr_of_reads' rd h2 nd hc (by omega) (fun _ _ e => e) (fun h' t tk k => ⟨.str _, H, I.kept k, ⟨_, rfl⟩, q⟩) h4
  | tup hs ha =>
    cases ru
    exact repr_of_reads' rd h2 nd hc (by omega) (fun _ _ e => e) (fun h' t tk k => ⟨.str _, H, I.kept k, ⟨_, rfl⟩, q⟩) h4
/-- what repr gives -/
def reprD (d : Dat) : Str := (py d).shown
theorem cd_reprD {K : PySem.W.Frag} {S : List Dat} {d : Dat} {m : Nat} (h : Pl m d) (hm : m ≤ 60) (h2 : (py d).showable = true) (h3 : (reprD d).length ≤ sizeLine) : CallD K (rReprD K) [.d d] S (.str (reprD d)) S := fun B H as vs c r Q q => by
  cases r with
  | cons r1 rr =>
    cases rr
    exact ⟨_, py d, rfl, h.dp _ (Rep.mono c.ex r1), ⟨h.lay.1, h2, Nat.le_trans h.lay.2 hm, h3⟩, q _ B H c Evo.refl (.str _)⟩
theorem Fun.okG {P : Program} {w : World} {K : PySem.W.Frag} {mg : Str → Option Value} {base : Heap} {x qual : Str} {st : Stmt} {f : Addr} {fd : FuncData} {N ps : List Str} {k : Nat} {sp : Sp} (F : Fun K x qual st f fd) (S : FnScope N ps (defScope st)) (many : ∀ vs H Q E, sp vs H Q E → vs.length = ps.length)
    (hb : ∀ (cdv : Value) (A : Around) (up : List Env) (t : Shared) (H : Hp) (vs : List V) (Q : VK) (E : XK), Calm (A.deeper (envOfC qual (defScope st) t.heap.objs.size f cdv)) → Room k (A.deeper (envOfC qual (defScope st) t.heap.objs.size f cdv)) → sp vs H Q E →
      ∃ r, PSs (cxOf CX0 P w K mg base N qual (defScope st) f cdv A up t H E).nox (defBody st) r ∧ r { nx := fun _ H' => Q .non H', rt := Q } (start N vs) H) : FnG P w K mg base CX0 (k + 1) f fd ps sp := by
  obtain ⟨oc, od, v1, v2, v3, an, cdv, ct, osl, rfl, lk, hcd⟩ := F.ex
  refine fng_body lk hcd S many fun A up t H vs Q E hc hr h => ?_
  obtain ⟨r, h1, h2⟩ := hb cdv A up t H vs Q E hc hr h
  exact ⟨r, PSs.nox h1, h2⟩
end RW

set_option Elab.async false
set_option linter.all false
set_option maxRecDepth 100000
set_option maxHeartbeats 4000000
namespace RW
open PySem PySem.Spec PyProof.Rows L2
open Evl (Ex)
/-- (..) * n, the frame told -/
theorem op_rpAK {X : Cx} (K : PySem.W.Frag) (hK : X.K = K := by rfl) : OpR X (binaryOp .Mult) (RwT.rRepA K) := by
  subst hK; exact RwT.op_repA
theorem op_ctAK {X : Cx} (K : PySem.W.Frag) (hK : X.K = K := by rfl) : OpR X (binaryOp .Add) (rCatA K) := by
  subst hK; exact op_catA
theorem call_lstK {X : Cx} (K : PySem.W.Frag) (hc : X.calm = true) (hK : X.K = K := by rfl) : CallR X (.type "list") (rLstD K) := by
  subst hK; exact call_lstD hc
/-! ### instances whose __init__ may raise -/
section
variable {K : PySem.W.Frag} {tA : TA} {env : Env1} {S S1 S2 : List Dat} {B B4 H H4 B1 H1 : Hp} {as : List Addr} {x dx : Addr} {C C0 : Addr} {ss : List Sl} {E : XK} {fs : List (Str × Dat)} {G : List Sl → List Dat → Out → List Dat → Prop} {p : Option (Str × Dat)} {d : Dat} {vs : List V}
theorem mk_start (c1 : Ok K B1 H1 as S1) (hx : H1 x = none) (hdx : H1 dx = none) : Ok K B1 (upd (upd H1 dx (.own x)) x (.ins C dx [])) (as ++ [x]) (S1 ++ [.ins C []]) := by
  have hB := c1.Bnone hx
  have hxa := c1.fresh hx
  have hdB := c1.Bnone hdx
  have hda := c1.fresh hdx
  have c2 : Ok K B1 (upd (upd H1 dx (.own x)) x (.ins C dx [])) as S1 := (c1.other hdB hda).other hB hxa
  exact c2.push hB hxa (CellAt.ofI upd_same .nil) (fun _ _ _ _ _ _ e q _ => by cases e; cases q)
theorem mk_args (c1 : Ok K B1 H1 as S1) (r1 : RepSs K B1 as vs ss) : RepSs K B1 (as ++ [x]) (.ref x :: (vs ++ [])) (.c S1.length :: ss) := by
  refine .cons ⟨x, by rw [← c1.len]; simp, rfl⟩ ?_
  rw [List.append_nil]
  have grow : ∀ {vs : List V} {ss : List Sl}, RepSs K B1 as vs ss → RepSs K B1 (as ++ [x]) vs ss := by
    intro vs ss h
    induction h with
    | nil => exact .nil
    | cons h _ ih => exact .cons h.grow ih
  exact grow r1
theorem mk_evo (c1 : Ok K B1 H1 as S1) (e1 : Evo B H as B1 H1) (hx : H1 x = none) (hdx : H1 dx = none) (e4 : Evo B1 (upd (upd H1 dx (.own x)) x (.ins C dx [])) (as ++ [x]) B4 H4) : Evo B H as B4 H4 := by
  have e2 : Evo B1 H1 as B1 (upd (upd H1 dx (.own x)) x (.ins C dx [])) := (Evo.refl.other (.of hdx)).other (.of hx)
  have x0 : Nn H x := e1.old hx
  have e12 := e1.trans e2
  refine ⟨e12.ex.trans e4.ex, fun a o hn q nt => e4.fr a o (fun hm => (List.mem_append.mp hm).elim hn fun z => ?_) (e12.fr a o hn q nt) nt, fun a o q nt => let ⟨o1, h1, n1⟩ := e12.pr a o q nt; (e4.gr a o1 h1 n1).elim (fun z => (e12.gr a o q nt).elim (fun z2 => .inl (z.trans z2)) fun ⟨o, fo, h⟩ => .inr ⟨o, fo, e4.tp a o fo h⟩) .inr, fun a o fo h => e4.tp a o fo (e12.tp a o fo h), fun a o q nt => let ⟨o1, h1, n1⟩ := e12.pr a o q nt; e4.pr a o1 h1 n1⟩
  rw [List.mem_singleton.mp z] at q
  exact x0.no q nt
/-- C(e, ..): a new instance, filled by its __init__, which does not raise here -/
theorem ev_makeR (h : EvA K tA env S ss S1) (hg : G (.c S1.length :: ss) (S1 ++ [.ins C []]) (.val .non) (S2 ++ [.ins C fs])) (hl : S2.length = S1.length) :
    Ev K (tMake C (SpR K G) [] E tA) env S (.d (.ins C fs)) S2 := fun B H as σ c g Q q =>
  h B H as σ c g _ fun vs B1 H1 c1 e1 r1 x dx hx hdx hne => by
    refine ⟨B1, as ++ [x], _, _, _, _, mk_start c1 hx hdx, mk_args c1 r1, hg, fun r er v B4 H4 c4 e4 r4 => ?_, fun _ _ z => nomatch z⟩
    cases er
    refine ⟨by cases r4; rfl, ?_⟩
    have hk : (as ++ [x])[as.length]? = some x := by simp
    have hs : (S2 ++ [Dat.ins C fs])[as.length]? = some (.ins C fs) := by
      rw [c1.len, ← hl]; simp
    obtain ⟨hb4, hc4⟩ := c4.cells as.length x _ hk hs
    obtain ⟨dx', ws, hw, rw'⟩ := hc4.ins
    have c5 : Ok K B4 H4 as S2 := by
      have := c4.upto as.length
      rw [List.take_left, show as.length = S2.length by rw [c1.len, hl], List.take_left] at this
      exact this
    have nd := c4.nd
    have hx4 : x ∉ as := fun hm => (List.nodup_append.mp nd).2.2 x hm x (by simp) rfl
    have x0 : Nn H x := e1.old hx
    have e5 : Evo B H as B4 H4 := mk_evo c1 e1 hx hdx e4
    refine q (.ref x) (upd B4 x (.ins C dx' ws)) H4 (c5.know hw hb4 hx4) ⟨e5.ex.trans (Evl.Ex.new hb4), e5.fr, fun a o q nt => by rw [upd_ne (by rintro rfl; exact x0.no q nt)]; exact e5.gr a o q nt, e5.tp, e5.pr⟩ (.ins upd_same (RepF.mono (Evl.Ex.new hb4) rw'))
/-- C(e, ..), its __init__ raises -/
theorem evx_make (h : EvA K tA env S ss S1) (hg : G (.c S1.length :: ss) (S1 ++ [.ins C0 []]) (.exc C p) (S1 ++ [d])) : EvX K E (tMake C0 (SpR K G) [] E tA) env S C p S1 := fun B H as σ c g w Q =>
  h B H as σ c g _ fun vs B1 H1 c1 e1 r1 x dx hx hdx hne => by
    refine ⟨B1, as ++ [x], _, _, .exc C p, _, mk_start c1 hx hdx, mk_args c1 r1, hg, fun r er => (nomatch er), fun C' p' z dd B4 H4 c4 e4 pa => ?_⟩
    cases z
    have c5 : Ok K B4 H4 as S1 := by
      have := c4.upto as.length
      rw [List.take_left, c1.len, List.take_left] at this
      exact this
    exact w dd B4 H4 c5 (mk_evo c1 e1 hx hdx e4) pa
end
section
variable {X : Cx} {cx : CXT} {n : Nat} {f : Addr} {fd : FuncData} {ps : List Str} {sp : Sp} {E : XK} {x : Str} {p pos : Pos}
/-- f() of a def that is run where nothing is being shown -/
theorem pe_callG0 (F : FnG X.prog X.w X.K X.mg X.base cx n f fd ps sp) (hc : Calm X.A) (hr : Room n X.A) (hg : Gl X x) (hm : X.mg x = some (.ref f)) (hk : PySem.W.keepIn X.K (.ref f) = true) (hb : L2.Binds X.K fd ps []) (hx : Passes cx X E)
    (hdb : (x == ("__debug__" : Str)) = false := by decide) : PE X (.Call (.Name x p) [] [] pos) (tCall sp [] E tNil) := ⟨fun pins s σ H Q I h => by
  have hs : sp [] H Q E := h
  refine wpAny_Call_Name_kw (ld_glob I hg hm (PySem.W.callWith_K0 I.kIn hk ?_) hdb)
  have hn : ([] : List Value).length = ps.length := F.many _ _ _ _ hs
  have hbt : BindsTo s fd ⟨[], []⟩ (ps.zip []) := by
    have z := hb s [] I.kIn (by rw [List.append_nil]; exact hn)
    rwa [List.append_nil] at z
  refine wpAny_call (codeAny_mono (F.does X.A X.stack s H ⟨[], []⟩ [] [] Q E hc hr I.env0 .nil hbt hs) fun r s2 hq => ?_)
  rcases r with err | fl
  · exact hx pins σ H s err s2 I hq
  · cases fl <;> first | exact I.after hq | exact hq.elim⟩
end
end RW

set_option Elab.async false
set_option linter.all false
set_option maxRecDepth 100000
set_option maxHeartbeats 4000000
namespace RwZ
open PySem PySem.Spec PyProof.Rows L2
@[reducible] def IsZ (h : Heap) (z TI TO : Addr) (f0 : Value) (f1 : Bool) : Prop := h.get? z = some { cls := .type "zip", data := .fields #[f0, .bool f1, .bool false, .ref TI, .ref TO] }
@[reducible] def IsT (h : Heap) (T : Addr) (vs : List Value) : Prop := h.get? T = some { cls := .type "tuple", data := .seq vs.toArray }
abbrev Col := Addr × Addr × Array Value
structure Sep (z TI TO : Addr) (cs : List Col) : Prop where
  nd : (cs.map (·.1)).Nodup
  it : ∀ c ∈ cs, c.1 ≠ z ∧ c.1 ≠ TI ∧ c.1 ≠ TO
  tu : ∀ c ∈ cs, c.2.1 ≠ z ∧ c.2.1 ≠ TO ∧ c.2.1 ∉ cs.map (·.1)
  zt : TI ≠ z ∧ TO ≠ z ∧ TI ≠ TO
def At (i : Nat) (h : Heap) (c : Col) : Prop := h.IsTupleIter c.1 c.2.1 i ∧ h.IsTuple c.2.1 c.2.2
section
variable {prog : Program} {w : World} {A : Around} {E : Value → Shared → Prop} {s : Shared} {z TI TO : Addr} {cs : List Col} {i : Nat}
theorem At.of {h h' : Heap} {c : Col} (x : At i h c) (e1 : h'.get? c.1 = h.get? c.1) (e2 : h'.get? c.2.1 = h.get? c.2.1) : At i h' c := by
  obtain ⟨⟨o, a, b⟩, ⟨o2, a2, b2⟩⟩ := x
  exact ⟨⟨o, by rw [e1]; exact a, b⟩, ⟨o2, by rw [e2]; exact a2, b2⟩⟩
theorem upd_T {T : Addr} {vs : List Value} {x : Value} {k : Nat} {Q : Unit → Shared → Prop} (h : IsT s.heap T vs) (hl : vs.length ≤ 1000) (q : ∀ h', IsT h' T (vs.set k x) → Heap.SameBut T s.heap h' → Q () { s with heap := h' }) :
    wpAny (model prog w) A (updateSeq T fun a => a.setIfInBounds k x) Q E s := by
  have hz : ∀ n, n ≤ 1000 → n ≤ sizeLine := fun n hn => by rw [sizeLine_eq]; omega
  refine wpAny_updateSeq h rfl (q _ ?_ ⟨?_, fun b hb => ?_⟩) (hz _ (by simpa using hl)) (Nat.le_succ_of_le (hz _ (by simpa using hl)))
  · show (s.heap.update T _).get? T = _
    rw [Heap.get?_update_self _ h]
    · simp [Obj.mapSeq]
    · rfl
  · exact Heap.size_update ..
  · exact Heap.get?_update_ne _ _ _ _ hb
theorem alive {a : Addr} {o : Obj} {Q : Option Obj → Shared → Prop} (h : s.heap.get? a = some o) (q : Q (some o) s) : wpAny (model prog w) A (loadIfAlive a) Q E s := by
  unfold loadIfAlive
  simp [wpAny]
  intro _ _
  rw [h]; exact q
theorem dead {a : Addr} {Q : Option Obj → Shared → Prop} (h : s.heap.get? a = none) (q : Q none s) : wpAny (model prog w) A (loadIfAlive a) Q E s := by
  unfold loadIfAlive
  simp [wpAny]
  intro _ _
  rw [h]; exact q
/-- the iterators one by one, into the owned tuple -/
theorem loop1 {f : Value × Nat → Option PySem.Fin × Unit → Sem (ForInStep (Option PySem.Fin × Unit))}
    (step : ∀ (a : Addr) (k : Nat) (s : Shared) (Q : ForInStep (Option PySem.Fin × Unit) → Shared → Prop) (vs : List Value), vs.length ≤ 1000 → wpAny (model prog w) A (Builtin.SmallTypes.nextOf (.ref a)) (fun x s' => IsT s'.heap TO vs ∧ ∀ h', IsT h' TO (vs.set k x) → Heap.SameBut TO s'.heap h' → Q (.yield (none, ())) { s' with heap := h' }) (fun e s' => wpAny (model prog w) A (setField (.ref z) 0 .none) (fun _ s'' => E e s'') E s') s → wpAny (model prog w) A (f (.ref a, k) (none, ())) Q E s)
    (S : Sep z TI TO cs) : ∀ (rest pre : List Col) (s : Shared) (os xs : List Value) (Q : Option PySem.Fin × Unit → Shared → Prop), cs = pre ++ rest → IsT s.heap TO (xs ++ os) → xs.length = pre.length → os.length = rest.length → cs.length ≤ 1000 → (∀ c ∈ pre, At (i + 1) s.heap c) → (∀ c ∈ rest, At i s.heap c) → (∀ c ∈ rest, i < c.2.2.size) →
      (∀ h' ys, IsT h' TO (xs ++ ys) → ys.length = rest.length → (∀ (k : Nat) (c : Col) (y : Value), rest[k]? = some c → ys[k]? = some y → c.2.2[i]? = some y) → (∀ c ∈ cs, At (i + 1) h' c) → h'.objs.size = s.heap.objs.size → (∀ b, b ≠ TO → b ∉ rest.map (·.1) → h'.get? b = s.heap.get? b) → Q (none, ()) { s with heap := h' }) →
      wpAny (model prog w) A (forIn ((rest.map fun c => Value.ref c.1).zipIdx pre.length) (none, ()) f) Q E s := by
  intro rest
  induction rest with
  | nil =>
    intro pre s os xs Q hcs hT hl ho h1000 h1 h2 hlt q
    have e : os = [] := by simpa using ho
    subst e
    simp only [List.map_nil, List.zipIdx_nil, List.forIn_nil]
    refine wpAny_pure (q s.heap [] hT rfl (fun k c y h => by simp at h) (fun c hc => h1 c (by rw [hcs, List.append_nil] at hc; exact hc)) rfl fun b _ _ => rfl)
  | cons c rest ih =>
    intro pre s os xs Q hcs hT hl ho h1000 h1 h2 hlt q
    obtain ⟨o0, os, rfl⟩ : ∃ o0 os', os = o0 :: os' := by cases os with | nil => simp at ho | cons a b => exact ⟨a, b, rfl⟩
    simp only [List.map_cons, List.zipIdx_cons, List.forIn_cons]
    have hc := h2 c List.mem_cons_self
    have hil := hlt c List.mem_cons_self
    have hmem : c ∈ cs := by rw [hcs]; simp
    obtain ⟨x, hx⟩ : ∃ x, c.2.2[i]? = some x := ⟨_, Array.getElem?_eq_getElem hil⟩
    refine wpAny_bind (step _ _ _ _ (xs ++ o0 :: os) (by rw [hcs] at h1000; simp at h1000 ho ⊢; omega) (wpAny_nextOf_tuple_item hc.1 hc.2 hx fun h1' hit sb => ?_))
    have nT : c.1 ≠ TO := (S.it c hmem).2.2
    refine ⟨by show h1'.get? TO = _; rw [sb.2 TO (Ne.symm nT)]; exact hT, fun h2' hT2 sb2 => ?_⟩
    have eT : (xs ++ o0 :: os).set pre.length x = (xs ++ [x]) ++ os := by rw [← hl]; simp
    rw [eT] at hT2
    have nd : ∀ d ∈ pre ++ rest, d.1 ≠ c.1 := fun d hd => by
      have := S.nd
      rw [hcs, List.map_append, List.map_cons] at this
      obtain ⟨_, n2, n3⟩ := List.nodup_append.mp this
      rcases List.mem_append.mp hd with h | h
      · exact fun e => n3 _ (List.mem_map.mpr ⟨d, h, rfl⟩) _ List.mem_cons_self e
      · exact fun e => (List.nodup_cons.mp n2).1 (by rw [← e]; exact List.mem_map.mpr ⟨d, h, rfl⟩)
    have keep : ∀ d ∈ cs, h2'.get? d.2.1 = s.heap.get? d.2.1 := fun d hd => by
      have hd2 := S.tu d hd
      rw [sb2.2 _ hd2.2.1, sb.2 _ fun e => hd2.2.2 (by rw [e]; exact List.mem_map.mpr ⟨c, hmem, rfl⟩)]
    have keepi : ∀ d ∈ pre ++ rest, h2'.get? d.1 = s.heap.get? d.1 := fun d hd => by
      have hd2 : d ∈ cs := by rw [hcs]; rcases List.mem_append.mp hd with h | h <;> simp [h]
      rw [sb2.2 _ (S.it d hd2).2.2, sb.2 _ (nd d hd)]
    have hcs' : cs = (pre ++ [c]) ++ rest := by rw [hcs]; simp
    have el : pre.length + 1 = (pre ++ [c]).length := by simp
    rw [el]
    refine ih (pre ++ [c]) { s with heap := h2' } os (xs ++ [x]) Q hcs' hT2 (by simp [hl]) (by simpa using ho) h1000 (fun d hd => ?_) (fun d hd => ?_) (fun d hd => hlt d (List.mem_cons_of_mem _ hd)) fun h3 ys a1 a2 a3 a4 a5 a6 => ?_
    · rcases List.mem_append.mp hd with h | h
      · exact (h1 d h).of (keepi d (List.mem_append.mpr (.inl h))) (keep d (by rw [hcs]; simp [h]))
      · rw [List.mem_singleton.mp h]
        refine ⟨?_, ?_⟩
        · obtain ⟨o, e1, e2⟩ := hit
          exact ⟨o, by rw [sb2.2 _ nT]; exact e1, e2⟩
        · obtain ⟨o, e1, e2⟩ := hc.2
          exact ⟨o, by rw [keep c hmem]; exact e1, e2⟩
    · exact (h2 d (List.mem_cons_of_mem _ hd)).of (keepi d (List.mem_append.mpr (.inr hd))) (keep d (by rw [hcs]; simp [hd]))
    · refine q h3 (x :: ys) (by rw [List.append_assoc] at a1; exact a1) (by simp [a2]) (fun k d y e1 e2 => ?_) a4 ?_ (fun b hb1 hb2 => ?_)
      · cases k with
        | zero => simp at e1 e2; subst e1 e2; exact hx
        | succ k => exact a3 k d y (by simpa using e1) (by simpa using e2)
      · rw [a5]; show h2'.objs.size = _; rw [sb2.1, sb.1]
      · have hb3 : b ∉ rest.map (·.1) := fun h => hb2 (by rw [List.map_cons]; exact List.mem_cons_of_mem _ h)
        rw [a6 b hb1 hb3]
        show h2'.get? b = _
        rw [sb2.2 _ hb1, sb.2 _ fun e => hb2 (by rw [e]; simp)]
/-- the iterators one by one, into a new list -/
theorem loop2 {f : Value → Option PySem.Fin × Array Value → Sem (ForInStep (Option PySem.Fin × Array Value))}
    (step : ∀ (a : Addr) (acc : Array Value) (s : Shared) (Q : ForInStep (Option PySem.Fin × Array Value) → Shared → Prop), wpAny (model prog w) A (Builtin.SmallTypes.nextOf (.ref a)) (fun x s' => Q (.yield (none, acc.push x)) s') E s → wpAny (model prog w) A (f (.ref a) (none, acc)) Q E s)
    (S : Sep z TI TO cs) : ∀ (rest pre : List Col) (s : Shared) (acc : Array Value) (Q : Option PySem.Fin × Array Value → Shared → Prop), cs = pre ++ rest → (∀ c ∈ pre, At (i + 1) s.heap c) → (∀ c ∈ rest, At i s.heap c) → (∀ c ∈ rest, i < c.2.2.size) →
      (∀ h' (ys : List Value), ys.length = rest.length → (∀ (k : Nat) (c : Col) (y : Value), rest[k]? = some c → ys[k]? = some y → c.2.2[i]? = some y) → (∀ c ∈ cs, At (i + 1) h' c) → h'.objs.size = s.heap.objs.size → (∀ b, b ∉ rest.map (·.1) → h'.get? b = s.heap.get? b) → Q (none, acc ++ ys.toArray) { s with heap := h' }) →
      wpAny (model prog w) A (forIn (rest.map fun c => Value.ref c.1) (none, acc) f) Q E s := by
  intro rest
  induction rest with
  | nil =>
    intro pre s acc Q hcs h1 h2 hlt q
    simp only [List.map_nil, List.forIn_nil]
    have := q s.heap [] rfl (fun k c y h => by simp at h) (fun c hc => h1 c (by rw [hcs, List.append_nil] at hc; exact hc)) rfl fun b _ => rfl
    refine wpAny_pure ?_
    simpa using this
  | cons c rest ih =>
    intro pre s acc Q hcs h1 h2 hlt q
    simp only [List.map_cons, List.forIn_cons]
    have hc := h2 c List.mem_cons_self
    have hil := hlt c List.mem_cons_self
    have hmem : c ∈ cs := by rw [hcs]; simp
    obtain ⟨x, hx⟩ : ∃ x, c.2.2[i]? = some x := ⟨_, Array.getElem?_eq_getElem hil⟩
    refine wpAny_bind (step _ _ _ _ (wpAny_nextOf_tuple_item hc.1 hc.2 hx fun h1' hit sb => ?_))
    have nd : ∀ d ∈ pre ++ rest, d.1 ≠ c.1 := fun d hd => by
      have := S.nd
      rw [hcs, List.map_append, List.map_cons] at this
      obtain ⟨_, n2, n3⟩ := List.nodup_append.mp this
      rcases List.mem_append.mp hd with h | h
      · exact fun e => n3 _ (List.mem_map.mpr ⟨d, h, rfl⟩) _ List.mem_cons_self e
      · exact fun e => (List.nodup_cons.mp n2).1 (by rw [← e]; exact List.mem_map.mpr ⟨d, h, rfl⟩)
    have keep : ∀ d ∈ cs, h1'.get? d.2.1 = s.heap.get? d.2.1 := fun d hd => by
      have hd2 := S.tu d hd
      rw [sb.2 _ fun e => hd2.2.2 (by rw [e]; exact List.mem_map.mpr ⟨c, hmem, rfl⟩)]
    have keepi : ∀ d ∈ pre ++ rest, h1'.get? d.1 = s.heap.get? d.1 := fun d hd => by
      rw [sb.2 _ (nd d hd)]
    have hcs' : cs = (pre ++ [c]) ++ rest := by rw [hcs]; simp
    refine ih (pre ++ [c]) { s with heap := h1' } (acc.push x) Q hcs' (fun d hd => ?_) (fun d hd => ?_) (fun d hd => hlt d (List.mem_cons_of_mem _ hd)) fun h3 ys a2 a3 a4 a5 a6 => ?_
    · rcases List.mem_append.mp hd with h | h
      · exact (h1 d h).of (keepi d (List.mem_append.mpr (.inl h))) (keep d (by rw [hcs]; simp [h]))
      · rw [List.mem_singleton.mp h]
        refine ⟨hit, ?_⟩
        obtain ⟨o, e1, e2⟩ := hc.2
        exact ⟨o, by rw [keep c hmem]; exact e1, e2⟩
    · exact (h2 d (List.mem_cons_of_mem _ hd)).of (keepi d (List.mem_append.mpr (.inr hd))) (keep d (by rw [hcs]; simp [hd]))
    · have := q h3 (x :: ys) (by simp [a2]) (fun k d y e1 e2 => ?_) a4 ?_ (fun b hb2 => ?_)
      · simpa using this
      · cases k with
        | zero => simp at e1 e2; subst e1 e2; exact hx
        | succ k => exact a3 k d y (by simpa using e1) (by simpa using e2)
      · rw [a5]; exact sb.1
      · have hb3 : b ∉ rest.map (·.1) := fun h => hb2 (by rw [List.map_cons]; exact List.mem_cons_of_mem _ h)
        rw [a6 b hb3]
        exact sb.2 _ fun e => hb2 (by rw [e]; simp)
def f0ok (h : Heap) (f0 : Value) : Prop := f0 = .none ∨ ∃ (a : Nat) (o : Obj), f0 = rawInt a ∧ h.get? a = some o
structure ZSt (z TI TO : Addr) (cs : List Col) (i : Nat) (h : Heap) : Prop where
  z : ∃ f0 f1, IsZ h z TI TO f0 f1 ∧ (f0 = .none ∨ ∃ a : Nat, f0 = rawInt a)
  ti : IsT h TI (cs.map fun c => .ref c.1)
  to : ∃ os, IsT h TO os ∧ os.length = cs.length
  at_ : ∀ c ∈ cs, At i h c
/-- a turn of zip(*..): a new tuple with one of each -/
theorem zn_item {Q : Value → Shared → Prop} (S : Sep z TI TO cs) (hne : cs ≠ []) (h1000 : cs.length ≤ 1000) (st : ZSt z TI TO cs i s.heap) (hlt : ∀ c ∈ cs, i < c.2.2.size)
    (q : ∀ h' (ys : List Value), IsT h' s.heap.objs.size ys → ys.length = cs.length → (∀ (k : Nat) (c : Col) (y : Value), cs[k]? = some c → ys[k]? = some y → c.2.2[i]? = some y) → ZSt z TI TO cs (i + 1) h' → h'.objs.size = s.heap.objs.size + 1 → (∀ b o, b ≠ z → b ≠ TO → b ∉ cs.map (·.1) → s.heap.get? b = some o → h'.get? b = some o) → Q (.ref s.heap.objs.size) { s with heap := h' }) :
    wpAny (model prog w) A (Builtin.«zip.__next__» { pos := [.ref z] }) (fun fin s' => ∃ v, fin = .done (.ret v) ∧ Q v s') E s := by
  obtain ⟨⟨f0, f1, hz, hf⟩, hTI, ⟨os, hTO, hol⟩, hat⟩ := st
  have hzl := Heap.lt_size hz
  unfold Builtin.«zip.__next__»
  simp only [slotArgs]
  refine wpAny_bind (wpAny_pure ?_)
  refine wpAny_bind (wpAny_field hz rfl rfl ?_)
  refine wpAny_bind (wpAny_field hz rfl rfl ?_)
  refine wpAny_bind (wpAny_seqItems hTI rfl ?_)
  dsimp only
  have he : ((cs.map fun c => Value.ref c.1).toArray).isEmpty = false := by cases cs with | nil => exact absurd rfl hne | cons a r => rfl
  rw [he]
  simp only [Bool.false_eq_true, if_false]
  unfold Builtin.SmallTypes.ownedTupleIsFree
  refine wpAny_bind (wpAny_bind (wpAny_field hz rfl rfl ?_))
  by_cases hfree : f0 = .none ∨ ∃ a : Nat, f0 = rawInt a ∧ s.heap.get? a = none
  · have tr : ∀ {Q' : Bool → Shared → Prop}, Q' true s → wpAny (model prog w) A (match #[f0, Value.bool f1, Value.bool false, Value.ref TI, Value.ref TO][0] with
        | Value.none => pure true
        | Value.int a tok => do
          let __do_lift ← loadIfAlive a.toNat
          if __do_lift.isNone = true then pure true
            else do
              let __do_lift ← field (Value.ref z) 1
              have __do_jp : Unit → Sem Bool := fun __r => pure false
              if (__do_lift != Value.bool true) = true then do
                  let __r ← setField (Value.ref z) 1 (Value.bool true)
                  __do_jp __r
                else __do_jp ()
        | x => pure false) Q' E s := fun {Q'} q' => by
      rcases hfree with rfl | ⟨a, rfl, ha⟩
      · exact wpAny_pure q'
      · refine wpAny_bind (dead ha ?_)
        exact wpAny_pure q'
    refine tr ?_
    simp only [if_true]
    refine wpAny_bind (wpAny_rule ?_)
    refine wpAny_bind (wpAny_field hz rfl rfl ?_)
    refine wpAny_bind (wpAny_setField_rec hz (by simp) fun h1 hz1 sb1 => ?_)
    have hat1 : ∀ c ∈ cs, At i h1 c := fun c hc => (hat c hc).of (sb1.2 _ (S.it c hc).1) (sb1.2 _ (S.tu c hc).1)
    refine wpAny_bind (loop1 (z := z) (TI := TI) (TO := TO) (cs := cs) (i := i) (fun a k s' Q' vs hvl hw => ?_) S cs [] { s with heap := h1 } os [] _ rfl (by show h1.get? TO = _; rw [sb1.2 _ S.zt.2.1]; exact hTO) rfl hol h1000 (fun c hc => by simp at hc) hat1 hlt fun h2 ys a1 a2 a3 a4 a5 a6 => ?_)
    · have e0 : (#[f0, Value.bool f1, Value.bool false, Value.ref TI, Value.ref TO][2] == Value.bool true) = false := by rfl
      rw [e0]
      try simp only [Bool.false_eq_true, if_false]
      refine wpAny_bind (wpAny_onRaise (wpAny_bind (wpAny_mono hw (fun x s'' hx => wpAny_pure ?_) fun e s'' he => he)))
      refine wpAny_bind (wpAny_seqItems hx.1 rfl ?_)
      refine wpAny_bind (upd_T hx.1 hvl fun h' hT' sb' => ?_)
      refine wpAny_bind (wpAny_letGo ?_)
      exact wpAny_pure (hx.2 h' hT' sb')
    · have hz2 : IsZ h2 z TI TO .ellipsis f1 := by
        show h2.get? z = _
        rw [a6 z (Ne.symm S.zt.2.1) (fun h => by obtain ⟨c, hc, e⟩ := List.mem_map.mp h; exact (S.it c hc).1 e)]
        exact hz1
      rw [List.nil_append] at a1
      refine wpAny_bind (wpAny_seqItems a1 rfl ?_)
      have hz1000 : ys.toArray.toList.length ≤ sizeLine := by
        rw [sizeLine_eq]; simp; omega
      refine wpAny_bind (wpAny_newTuple ?_ hz1000)
      have hs2 : h2.objs.size = s.heap.objs.size := by rw [a5]; exact sb1.1
      have fin : ∀ h3, h3.get? z = some { cls := .type "zip", data := .fields #[rawInt s.heap.objs.size, .bool false, .bool false, .ref TI, .ref TO] } → h3.get? s.heap.objs.size = some { cls := .type "tuple", data := .seq ys.toArray } → h3.objs.size = s.heap.objs.size + 1 → (∀ b o, b ≠ z → h2.get? b = some o → h3.get? b = some o) → Q (.ref s.heap.objs.size) { s with heap := h3 } := fun h3 g1 g2 g3 g4 => by
        refine q h3 ys g2 a2 a3 ⟨⟨_, _, g1, .inr ⟨_, rfl⟩⟩, ?_, ⟨ys, g4 TO _ S.zt.2.1 a1, a2⟩, fun c hc => ?_⟩ g3 fun b o hb1 hb2 hb3 hb => g4 b o hb1 ?_
        · refine g4 TI _ S.zt.1 ?_
          rw [a6 TI S.zt.2.2 (fun h => by obtain ⟨c, hc, e⟩ := List.mem_map.mp h; exact (S.it c hc).2.1 e)]
          show h1.get? TI = _
          rw [sb1.2 _ S.zt.1]; exact hTI
        · obtain ⟨⟨o1, e1, e2⟩, ⟨o2, e3, e4⟩⟩ := a4 c hc
          exact ⟨⟨o1, g4 _ _ (S.it c hc).1 e1, e2⟩, ⟨o2, g4 _ _ (S.tu c hc).1 e3, e4⟩⟩
        · rw [a6 b hb2 hb3]
          show h1.get? b = _
          rw [sb1.2 _ hb1]; exact hb
      unfold Builtin.SmallTypes.ownedTupleHandOut
      have hzp : (h2.push { cls := Value.type "tuple", data := Data.seq ys.toArray }).get? z = some { cls := .type "zip", data := .fields #[.ellipsis, .bool f1, .bool false, .ref TI, .ref TO] } := Heap.get?_push_of_some _ hz2
      refine wpAny_bind (wpAny_bind (wpAny_setField_rec hzp (by simp) fun h3 hz3 sb3 => ?_))
      refine wpAny_setField_rec hz3 (by simp) fun h4 hz4 sb4 => ?_
      refine wpAny_pure ⟨_, rfl, ?_⟩
      show Q (Value.ref h2.objs.size) _
      rw [hs2]
      refine fin h4 (by rw [hz4]; show some ({ cls := Value.type "zip", data := Data.fields #[rawInt h2.objs.size, .bool false, .bool false, .ref TI, .ref TO] } : Obj) = _; rw [hs2]) ?_ ?_ fun b o hb hg => ?_
      · rw [sb4.2 _ (Nat.ne_of_gt hzl), sb3.2 _ (Nat.ne_of_gt hzl), ← hs2]
        exact Heap.get?_push_size _ rfl
      · rw [sb4.1, sb3.1]; show (h2.push _).objs.size = _; rw [Heap.size_push, hs2]
      · rw [sb4.2 _ hb, sb3.2 _ hb]
        exact Heap.get?_push_of_some _ hg
  obtain ⟨a, o, hf0, ha⟩ : ∃ (a : Nat) (o : Obj), f0 = rawInt a ∧ s.heap.get? a = some o := by
    rcases hf with h | ⟨a, h⟩
    · exact absurd (.inl h) hfree
    · cases e : s.heap.get? a with
      | none => exact absurd (.inr ⟨a, h, e⟩) hfree
      | some o => exact ⟨a, o, h, e⟩
  · subst hf0
    refine wpAny_bind (alive ha ?_)
    simp only [Option.isNone, Bool.false_eq_true, if_false]
    refine wpAny_bind (wpAny_field hz rfl rfl ?_)
    have e0 : (#[rawInt ↑a, Value.bool f1, Value.bool false, Value.ref TI, Value.ref TO][2] == Value.bool true) = false := by rfl
    rw [e0]
    have go : ∀ h1, IsZ h1 z TI TO (rawInt a) true → Heap.SameBut z s.heap h1 → ∀ (h2 : Heap) (ys : List Value), ys.length = cs.length → (∀ (k : Nat) (c : Col) (y : Value), cs[k]? = some c → ys[k]? = some y → c.2.2[i]? = some y) → (∀ c ∈ cs, At (i + 1) h2 c) → h2.objs.size = h1.objs.size → (∀ b, b ∉ cs.map (·.1) → h2.get? b = h1.get? b) → Q (.ref h2.objs.size) { s with heap := h2.push { cls := .type "tuple", data := .seq ys.toArray } } := fun h1 hz1 sb1 h2 ys a2 a3 a4 a5 a6 => by
      have hs2 : h2.objs.size = s.heap.objs.size := by rw [a5]; exact sb1.1
      rw [hs2]
      have up : ∀ {b o}, h2.get? b = some o → (h2.push { cls := .type "tuple", data := .seq ys.toArray }).get? b = some o := fun e => Heap.get?_push_of_some _ e
      have nz : z ∉ cs.map (·.1) := fun h => by obtain ⟨c, hc, e⟩ := List.mem_map.mp h; exact (S.it c hc).1 e
      refine q _ ys (by rw [← hs2]; exact Heap.get?_push_size _ rfl) a2 a3 ⟨⟨_, _, up (by rw [a6 z nz]; exact hz1), .inr ⟨_, rfl⟩⟩, up ?_, ⟨os, up ?_, hol⟩, fun c hc => ?_⟩ (by rw [Heap.size_push, hs2]) fun b o hb1 hb2 hb3 hb => up ?_
      · rw [a6 TI (fun h => by obtain ⟨c, hc, e⟩ := List.mem_map.mp h; exact (S.it c hc).2.1 e), sb1.2 _ S.zt.1]; exact hTI
      · rw [a6 TO (fun h => by obtain ⟨c, hc, e⟩ := List.mem_map.mp h; exact (S.it c hc).2.2 e), sb1.2 _ S.zt.2.1]; exact hTO
      · obtain ⟨⟨o1, e1, e2⟩, ⟨o2, e3, e4⟩⟩ := a4 c hc
        exact ⟨⟨o1, up e1, e2⟩, ⟨o2, up e3, e4⟩⟩
      · rw [a6 b hb3, sb1.2 _ hb1]; exact hb
    have hz1000 : ∀ ys : List Value, ys.length = cs.length → (#[] ++ ys.toArray).toList.length ≤ sizeLine := fun ys h => by
      rw [sizeLine_eq]; simp; omega
    have hat1 : ∀ h1, Heap.SameBut z s.heap h1 → ∀ c ∈ cs, At i h1 c := fun h1 sb1 c hc => (hat c hc).of (sb1.2 _ (S.it c hc).1) (sb1.2 _ (S.tu c hc).1)
    have same : Heap.SameBut z s.heap s.heap := ⟨rfl, fun _ _ => rfl⟩
    cases f1 with
    | false =>
      refine wpAny_ite_true (by rfl) (wpAny_bind (wpAny_setField_rec hz (by simp) fun h1 hz1 sb1 => ?_))
      refine wpAny_pure ?_
      simp only [Bool.false_eq_true, if_false]
      try simp only [Bool.false_eq_true, if_false, List.forIn_toArray]
      refine wpAny_bind (loop2 (z := z) (TI := TI) (TO := TO) (cs := cs) (i := i) (fun b acc s' Q' hw => ?_) S cs [] { s with heap := h1 } #[] _ rfl (fun c hc => by simp at hc) (hat1 h1 sb1) hlt fun h2 ys a2 a3 a4 a5 a6 => ?_)
      · refine wpAny_bind (wpAny_holding (wpAny_bind (wpAny_mono hw (fun x s'' hx => wpAny_pure ?_) fun e s'' he => he)))
        exact wpAny_pure hx
      · refine wpAny_bind (wpAny_newTuple ?_ (hz1000 ys a2))
        refine wpAny_pure ⟨_, rfl, ?_⟩
        have := go h1 hz1 sb1 h2 ys a2 a3 a4 a5 a6
        simpa using this
    | true =>
      refine wpAny_ite_false (by rfl) ?_
      refine wpAny_pure ?_
      simp only [Bool.false_eq_true, if_false]
      try simp only [Bool.false_eq_true, if_false, List.forIn_toArray]
      refine wpAny_bind (loop2 (z := z) (TI := TI) (TO := TO) (cs := cs) (i := i) (fun b acc s' Q' hw => ?_) S cs [] s #[] _ rfl (fun c hc => by simp at hc) (hat1 _ same) hlt fun h2 ys a2 a3 a4 a5 a6 => ?_)
      · refine wpAny_bind (wpAny_holding (wpAny_bind (wpAny_mono hw (fun x s'' hx => wpAny_pure ?_) fun e s'' he => he)))
        exact wpAny_pure hx
      · refine wpAny_bind (wpAny_newTuple ?_ (hz1000 ys a2))
        refine wpAny_pure ⟨_, rfl, ?_⟩
        have := go s.heap hz same h2 ys a2 a3 a4 a5 a6
        simpa using this
/-- the first iterator is at its end -/
theorem zn_end {Q : PySem.Fin → Shared → Prop} (hh : A.handled = none) (S : Sep z TI TO cs) (hne : cs ≠ []) (st : ZSt z TI TO cs i s.heap) (hend : ∀ c ∈ cs, c.2.2.size = i)
    (q : ∀ h' e, (∀ b o, b ≠ z → b ∉ cs.map (·.1) → s.heap.get? b = some o → h'.get? b = some o) → (∃ o, h'.get? e = some o ∧ o.cls = .type "StopIteration") → E (.ref e) { s with heap := h' }) :
    wpAny (model prog w) A (Builtin.«zip.__next__» { pos := [.ref z] }) Q E s := by
  obtain ⟨⟨f0, f1, hz, hf⟩, hTI, ⟨os, hTO, hol⟩, hat⟩ := st
  have hzl := Heap.lt_size hz
  obtain ⟨c, cs', hcs⟩ : ∃ c cs', cs = c :: cs' := by cases cs with | nil => exact absurd rfl hne | cons a r => exact ⟨a, r, rfl⟩
  have hmem : c ∈ cs := by rw [hcs]; simp
  have hc := hat c hmem
  have hno : c.2.2[i]? = none := by
    rw [← hend c hmem]; exact Array.getElem?_size
  unfold Builtin.«zip.__next__»
  simp only [slotArgs]
  refine wpAny_bind (wpAny_pure ?_)
  refine wpAny_bind (wpAny_field hz rfl rfl ?_)
  refine wpAny_bind (wpAny_field hz rfl rfl ?_)
  refine wpAny_bind (wpAny_seqItems hTI rfl ?_)
  dsimp only
  have he : ((cs.map fun c => Value.ref c.1).toArray).isEmpty = false := by rw [hcs]; rfl
  rw [he]
  simp only [Bool.false_eq_true, if_false]
  unfold Builtin.SmallTypes.ownedTupleIsFree
  refine wpAny_bind (wpAny_bind (wpAny_field hz rfl rfl ?_))
  have hcz := (S.it c hmem).1
  have huz := (S.tu c hmem).1
  have huc : c.2.1 ≠ c.1 := fun e => (S.tu c hmem).2.2 (by rw [e]; exact List.mem_map.mpr ⟨c, hmem, rfl⟩)
  by_cases hfree : f0 = .none ∨ ∃ a : Nat, f0 = rawInt a ∧ s.heap.get? a = none
  · have tr : ∀ {Q' : Bool → Shared → Prop}, Q' true s → wpAny (model prog w) A (match #[f0, Value.bool f1, Value.bool false, Value.ref TI, Value.ref TO][0] with
        | Value.none => pure true
        | Value.int a tok => do
          let __do_lift ← loadIfAlive a.toNat
          if __do_lift.isNone = true then pure true
            else do
              let __do_lift ← field (Value.ref z) 1
              have __do_jp : Unit → Sem Bool := fun __r => pure false
              if (__do_lift != Value.bool true) = true then do
                  let __r ← setField (Value.ref z) 1 (Value.bool true)
                  __do_jp __r
                else __do_jp ()
        | x => pure false) Q' E s := fun {Q'} q' => by
      rcases hfree with rfl | ⟨a, rfl, ha⟩
      · exact wpAny_pure q'
      · refine wpAny_bind (dead ha ?_)
        exact wpAny_pure q'
    refine tr ?_
    simp only [if_true]
    refine wpAny_bind (wpAny_rule ?_)
    refine wpAny_bind (wpAny_field hz rfl rfl ?_)
    refine wpAny_bind (wpAny_setField_rec hz (by simp) fun h1 hz1 sb1 => ?_)
    have e0 : (#[f0, Value.bool f1, Value.bool false, Value.ref TI, Value.ref TO][2] == Value.bool true) = false := by rfl
    rw [e0]
    try simp only [Bool.false_eq_true, if_false]
    rw [hcs]
    simp only [List.map_cons, List.zipIdx_cons, List.forIn_cons]
    have hc1 : At i h1 c := hc.of (sb1.2 _ hcz) (sb1.2 _ huz)
    refine wpAny_bind (wpAny_bind (wpAny_bind (wpAny_onRaise (wpAny_bind (wpAny_nextOf_tuple_end hh hc1.1 hc1.2 hno fun h2 e xb he => ?_)))))
    have hz2 := xb z _ (Ne.symm hcz) hz1
    refine wpAny_setField_rec hz2 (by simp) fun h3 hz3 sb3 => ?_
    refine q h3 e (fun b o hb1 hb2 hb => ?_) ?_
    · rw [sb3.2 _ hb1]
      refine xb b o (fun e => hb2 (by rw [e]; exact List.mem_map.mpr ⟨c, hmem, rfl⟩)) ?_
      rw [sb1.2 _ hb1]; exact hb
    · obtain ⟨o, e1, e2⟩ := he
      by_cases hez : e = z
      · subst hez
        rw [hz2] at e1
        cases e1
        simp at e2
      · exact ⟨o, by rw [sb3.2 _ hez]; exact e1, e2⟩
  obtain ⟨a, o, hf0, ha⟩ : ∃ (a : Nat) (o : Obj), f0 = rawInt a ∧ s.heap.get? a = some o := by
    rcases hf with h | ⟨a, h⟩
    · exact absurd (.inl h) hfree
    · cases e : s.heap.get? a with
      | none => exact absurd (.inr ⟨a, h, e⟩) hfree
      | some o => exact ⟨a, o, h, e⟩
  · subst hf0
    refine wpAny_bind (alive ha ?_)
    simp only [Option.isNone, Bool.false_eq_true, if_false]
    refine wpAny_bind (wpAny_field hz rfl rfl ?_)
    have e0 : (#[rawInt ↑a, Value.bool f1, Value.bool false, Value.ref TI, Value.ref TO][2] == Value.bool true) = false := by rfl
    rw [e0]
    try simp only [Bool.false_eq_true, if_false, List.forIn_toArray]
    rw [hcs]
    simp only [List.map_cons, List.forIn_cons]
    have go : ∀ h1, Heap.SameBut z s.heap h1 → ∀ {Q2 : Value → Shared → Prop}, wpAny (model prog w) A (Builtin.SmallTypes.nextOf (.ref c.1)) Q2 E { s with heap := h1 } := fun h1 sb1 Q2 => by
      have hc1 : At i h1 c := hc.of (sb1.2 _ hcz) (sb1.2 _ huz)
      refine wpAny_nextOf_tuple_end hh hc1.1 hc1.2 hno fun h2 e xb he => ?_
      refine q h2 e (fun b o hb1 hb2 hb => ?_) he
      refine xb b o (fun e => hb2 (by rw [e]; exact List.mem_map.mpr ⟨c, hmem, rfl⟩)) ?_
      rw [sb1.2 _ hb1]; exact hb
    cases f1 with
    | false =>
      refine wpAny_ite_true (by rfl) (wpAny_bind (wpAny_setField_rec hz (by simp) fun h1 hz1 sb1 => ?_))
      refine wpAny_pure ?_
      simp only [Bool.false_eq_true, if_false]
      exact wpAny_bind (wpAny_bind (wpAny_bind (wpAny_holding (wpAny_bind (go h1 sb1)))))
    | true =>
      refine wpAny_ite_false (by rfl) ?_
      refine wpAny_pure ?_
      simp only [Bool.false_eq_true, if_false]
      exact wpAny_bind (wpAny_bind (wpAny_bind (wpAny_holding (wpAny_bind (go s.heap ⟨rfl, fun _ _ => rfl⟩)))))
/-! ### zip(*rows), made -/
theorem tc_zip (args : List Value) : checkTypeCall "zip" { pos := args } = pure () := rfl
theorem nc_zip : ∀ (args : List Value), args.length ≤ 12 → checkBuiltinCall "zip.__new__" { pos := Value.type "zip" :: args } = pure ()
  | [], _ => by with_unfolding_all rfl
  | [_], _ => by with_unfolding_all rfl
  | [_, _], _ => by with_unfolding_all rfl
  | [_, _, _], _ => by with_unfolding_all rfl
  | [_, _, _, _], _ => by with_unfolding_all rfl
  | [_, _, _, _, _], _ => by with_unfolding_all rfl
  | [_, _, _, _, _, _], _ => by with_unfolding_all rfl
  | [_, _, _, _, _, _, _], _ => by with_unfolding_all rfl
  | [_, _, _, _, _, _, _, _], _ => by with_unfolding_all rfl
  | [_, _, _, _, _, _, _, _, _], _ => by with_unfolding_all rfl
  | [_, _, _, _, _, _, _, _, _, _], _ => by with_unfolding_all rfl
  | [_, _, _, _, _, _, _, _, _, _, _], _ => by with_unfolding_all rfl
  | [_, _, _, _, _, _, _, _, _, _, _, _], _ => by with_unfolding_all rfl
  | _ :: _ :: _ :: _ :: _ :: _ :: _ :: _ :: _ :: _ :: _ :: _ :: _ :: _, h => by simp at h
theorem oi_any (obj : Value) (args : List Value) : argsOk "object.__init__" { pos := obj :: args } := rfl
/-- the iterators of the columns -/
def colsOf (n0 : Nat) : List (Addr × Array Value) → List Col
  | [] => []
  | t :: ts => (n0, t.1, t.2) :: colsOf (n0 + 1) ts
theorem colsOf_len : ∀ (ts : List (Addr × Array Value)) (n0 : Nat), (colsOf n0 ts).length = ts.length
  | [], _ => rfl
  | t :: ts, n0 => by rw [colsOf, List.length_cons, List.length_cons, colsOf_len ts]
theorem colsOf_mem : ∀ {ts : List (Addr × Array Value)} {n0 : Nat} {c : Col}, c ∈ colsOf n0 ts → n0 ≤ c.1 ∧ c.1 < n0 + ts.length ∧ (c.2.1, c.2.2) ∈ ts
  | [], _, _, h => by simp [colsOf] at h
  | t :: ts, n0, c, h => by
    rw [colsOf] at h
    rcases List.mem_cons.mp h with rfl | h
    · exact ⟨Nat.le_refl _, by simp, List.mem_cons_self⟩
    · obtain ⟨h1, h2, h3⟩ := colsOf_mem h
      exact ⟨Nat.le_of_succ_le h1, Nat.lt_of_lt_of_eq h2 (by rw [List.length_cons]; omega), List.mem_cons_of_mem _ h3⟩
theorem colsOf_nd : ∀ (ts : List (Addr × Array Value)) (n0 : Nat), ((colsOf n0 ts).map (·.1)).Nodup
  | [], _ => by simp [colsOf]
  | t :: ts, n0 => by
    rw [colsOf, List.map_cons]
    refine List.nodup_cons.mpr ⟨fun h => ?_, colsOf_nd ts (n0 + 1)⟩
    obtain ⟨c, hc, e⟩ := List.mem_map.mp h
    have := (colsOf_mem hc).1
    have e : c.1 = n0 := e
    rw [e] at this
    exact absurd this (Nat.not_succ_le_self _)
theorem colsOf_snd : ∀ (ts : List (Addr × Array Value)) (n0 : Nat), (colsOf n0 ts).map (·.2.1) = ts.map (·.1)
  | [], _ => rfl
  | t :: ts, n0 => by rw [colsOf, List.map_cons, List.map_cons, colsOf_snd ts]
/-- an iterator for each of the tuples -/
theorem iter_all : ∀ (ts : List (Addr × Array Value)) (s : Shared) (acc : Array Value) (Q : Array Value → Shared → Prop), (∀ t ∈ ts, s.heap.IsTuple t.1 t.2) →
    (∀ h', (∀ c ∈ colsOf s.heap.objs.size ts, At 0 h' c) → h'.objs.size = s.heap.objs.size + ts.length → (∀ b o, s.heap.get? b = some o → h'.get? b = some o) → Q (acc ++ ((colsOf s.heap.objs.size ts).map fun c => Value.ref c.1).toArray) { s with heap := h' }) →
    wpAny (model prog w) A (forIn (ts.map fun t => Value.ref t.1) acc fun x its => do
        let d ← holding its.toList (pyIter x)
        pure (ForInStep.yield (its.push d))) Q E s
  | [], s, acc, Q, _, q => by
    simp only [List.map_nil, List.forIn_nil]
    refine wpAny_pure ?_
    have := q s.heap (fun c hc => by simp [colsOf] at hc) rfl fun _ _ h => h
    simpa [colsOf] using this
  | t :: ts, s, acc, Q, ht, q => by
    simp only [List.map_cons, List.forIn_cons]
    have h0 := ht t List.mem_cons_self
    refine wpAny_bind (wpAny_bind (wpAny_holding ((begins_tuple t.1 t.2).iter prog w A E s _ h0 ?_)))
    refine wpAny_pure ?_
    have up : ∀ {b o}, s.heap.get? b = some o → (s.heap.push { cls := .type "tuple_iterator", data := .fields #[.ref t.1, .int 0 0] }).get? b = some o := fun e => Heap.get?_push_of_some _ e
    have hsz : (s.heap.push { cls := .type "tuple_iterator", data := .fields #[.ref t.1, .int 0 0] }).objs.size = s.heap.objs.size + 1 := Heap.size_push ..
    refine iter_all ts { s with heap := s.heap.push { cls := .type "tuple_iterator", data := .fields #[.ref t.1, .int 0 0] } } (acc.push _) Q (fun u hu => ?_) fun h' a1 a2 a3 => ?_
    · obtain ⟨o, e1, e2⟩ := ht u (List.mem_cons_of_mem _ hu)
      exact ⟨o, up e1, e2⟩
    · rw [hsz] at a1 a2
      have := q h' (fun c hc => ?_) (by rw [a2, List.length_cons]; omega) fun b o hb => a3 b o (up hb)
      · rw [colsOf] at this
        rw [hsz]
        simpa using this
      · rw [colsOf] at hc
        rcases List.mem_cons.mp hc with rfl | hc
        · refine ⟨⟨_, a3 _ _ (Heap.get?_push_size _ rfl), rfl, rfl⟩, ?_⟩
          obtain ⟨o, e1, e2⟩ := h0
          exact ⟨o, a3 _ _ (up e1), e2⟩
        · exact a1 c hc
theorem zip_new {ts : List (Addr × Array Value)} : Meets (Builtin.«zip.__new__» ⟨.type "zip" :: ts.map (fun t => Value.ref t.1), []⟩) (fun _ R s => (∀ t ∈ ts, s.heap.IsTuple t.1 t.2) ∧ ts.length ≤ 12 ∧
    ∀ h', ZSt (s.heap.objs.size + ts.length + 2) (s.heap.objs.size + ts.length) (s.heap.objs.size + ts.length + 1) (colsOf s.heap.objs.size ts) 0 h' → IsZ h' (s.heap.objs.size + ts.length + 2) (s.heap.objs.size + ts.length) (s.heap.objs.size + ts.length + 1) .none false → h'.objs.size = s.heap.objs.size + ts.length + 3 → (∀ b o, s.heap.get? b = some o → h'.get? b = some o) → R (.ok (.ret (.ref (s.heap.objs.size + ts.length + 2)))) { s with heap := h' }) :=
  .of_wp fun prog w A R s h => by
    obtain ⟨ht, hl, h⟩ := h
    unfold Builtin.«zip.__new__»
    unfold Builtin.SmallTypes.newClass
    simp only [List.length_nil]
    have hsub : isSubtype (Value.type "zip") (Value.type "zip") = pure true := by rfl
    have hty : isType (Value.type "zip") = pure true := by rfl
    rw [hty, hsub]
    refine wpAny_bind (wpAny_bind (wpAny_pure ?_))
    refine wpAny_ite_false (by rfl) (wpAny_bind (wpAny_pure ?_))
    refine wpAny_ite_false (by rfl) (wpAny_pure ?_)
    refine wpAny_ite_false (by decide) ?_
    unfold Builtin.SmallTypes.iterAll
    refine wpAny_bind (wpAny_bind (iter_all ts s #[] _ ht fun h1 a1 a2 a3 => ?_))
    refine wpAny_pure ?_
    have hlen := colsOf_len ts s.heap.objs.size
    have hz : ∀ n, n ≤ 12 → n ≤ sizeLine := fun n hn => by rw [sizeLine_eq]; omega
    have e1 : (#[] ++ ((colsOf s.heap.objs.size ts).map fun (c : Col) => Value.ref c.1).toArray).toList = (colsOf s.heap.objs.size ts).map fun (c : Col) => Value.ref c.1 := by rw [Array.empty_append]
    rw [e1]
    refine wpAny_bind (wpAny_newTuple ?_ (hz _ (by simp [hlen, hl])))
    refine wpAny_bind (wpAny_newTuple ?_ (hz _ (by simp [hlen, hl])))
    unfold Builtin.SmallTypes.newRecord
    refine wpAny_bind ?_
    dsimp only
    have sz1 : (h1.push { cls := .type "tuple", data := .seq ((colsOf s.heap.objs.size ts).map fun (c : Col) => Value.ref c.1).toArray }).objs.size = s.heap.objs.size + ts.length + 1 := by rw [Heap.size_push, a2]
    rw [a2, sz1]
    unfold newObj
    wp_walk
    have sz2 : ∀ o : Obj, ((h1.push { cls := .type "tuple", data := .seq ((colsOf s.heap.objs.size ts).map fun (c : Col) => Value.ref c.1).toArray }).push o).objs.size = s.heap.objs.size + ts.length + 2 := fun o => by rw [Heap.size_push, sz1]
    refine ⟨_, rfl, ?_⟩
    rw [sz2]
    have up : ∀ {b o o1 o2 o3}, h1.get? b = some o → (((h1.push o1).push o2).push o3).get? b = some o := fun e => Heap.get?_push_of_some _ (Heap.get?_push_of_some _ (Heap.get?_push_of_some _ e))
    have hz0 : IsZ (((h1.push { cls := .type "tuple", data := .seq ((colsOf s.heap.objs.size ts).map fun (c : Col) => Value.ref c.1).toArray }).push { cls := .type "tuple", data := .seq (((colsOf s.heap.objs.size ts).map fun (c : Col) => Value.ref c.1).map fun _ => Value.none).toArray }).push { cls := .type "zip", data := .fields (Builtin.SmallTypes.ownedTupleFields ++ [Value.bool false, Value.ref (s.heap.objs.size + ts.length), Value.ref (s.heap.objs.size + ts.length + 1)]).toArray }) (s.heap.objs.size + ts.length + 2) (s.heap.objs.size + ts.length) (s.heap.objs.size + ts.length + 1) .none false := by
      have := Heap.get?_push_size ((h1.push { cls := .type "tuple", data := .seq ((colsOf s.heap.objs.size ts).map fun (c : Col) => Value.ref c.1).toArray }).push { cls := .type "tuple", data := .seq (((colsOf s.heap.objs.size ts).map fun (c : Col) => Value.ref c.1).map fun _ => Value.none).toArray }) (o := { cls := .type "zip", data := .fields (Builtin.SmallTypes.ownedTupleFields ++ [Value.bool false, Value.ref (s.heap.objs.size + ts.length), Value.ref (s.heap.objs.size + ts.length + 1)]).toArray }) rfl
      rw [sz2] at this
      exact this
    refine h _ ⟨⟨.none, false, hz0, .inl rfl⟩, ?_, ⟨(colsOf s.heap.objs.size ts).map fun _ => Value.none, ?_, by rw [List.length_map]⟩, fun c hc => ?_⟩ hz0 (by rw [Heap.size_push, sz2]) fun b o e => up (a3 b o e)
    · refine Heap.get?_push_of_some _ (Heap.get?_push_of_some _ ?_)
      have := Heap.get?_push_size h1 (o := { cls := .type "tuple", data := .seq ((colsOf s.heap.objs.size ts).map fun (c : Col) => Value.ref c.1).toArray }) rfl
      rw [a2] at this
      exact this
    · refine Heap.get?_push_of_some _ ?_
      have := Heap.get?_push_size (h1.push { cls := .type "tuple", data := .seq ((colsOf s.heap.objs.size ts).map fun (c : Col) => Value.ref c.1).toArray }) (o := { cls := .type "tuple", data := .seq (((colsOf s.heap.objs.size ts).map fun (c : Col) => Value.ref c.1).map fun _ => Value.none).toArray }) rfl
      rw [sz1, List.map_map] at this
      rw [List.map_map]
      exact this
    · obtain ⟨⟨o1, e1, e2⟩, ⟨o2, e3, e4⟩⟩ := a1 c hc
      exact ⟨⟨o1, up e1, e2⟩, ⟨o2, up e3, e4⟩⟩
theorem zip_begins {ts : List (Addr × Array Value)} {Q : Value → Shared → Prop} (ht : ∀ t ∈ ts, s.heap.IsTuple t.1 t.2) (hl : ts.length ≤ 12)
    (q : ∀ h', ZSt (s.heap.objs.size + ts.length + 2) (s.heap.objs.size + ts.length) (s.heap.objs.size + ts.length + 1) (colsOf s.heap.objs.size ts) 0 h' → IsZ h' (s.heap.objs.size + ts.length + 2) (s.heap.objs.size + ts.length) (s.heap.objs.size + ts.length + 1) .none false → h'.objs.size = s.heap.objs.size + ts.length + 3 → (∀ b o, s.heap.get? b = some o → h'.get? b = some o) → Q (.ref (s.heap.objs.size + ts.length + 2)) { s with heap := h' }) :
    wpAny (model prog w) A (call (.type "zip") (ts.map fun t => Value.ref t.1)) Q E s := by
  refine callType_new F.called_zip (by decide) (tc_zip _) (nc_zip _ (by rw [List.length_map]; exact hl)) (fun obj => oi_any obj _) F.entry_zip_new zip_new ⟨ht, hl, fun h' a1 a0 a2 a3 => ⟨⟨_, a0, rfl⟩, q h' a1 a0 a2 a3⟩⟩
/-- next(z) within another iterator -/
theorem nextOf_zip {f0 : Value} {f1 : Bool} {Q : Value → Shared → Prop} (hz : IsZ s.heap z TI TO f0 f1) (h : wpAny (model prog w) A.in1 (Builtin.«zip.__next__» { pos := [.ref z] }) (fun fin s' => ∃ v, fin = .done (.ret v) ∧ Q v s') E s) : wpAny (model prog w) A (Builtin.SmallTypes.nextOf (.ref z)) Q E s := by
  unfold Builtin.SmallTypes.nextOf
  have ht : s.TypeIs (.ref z) "zip" := ⟨_, hz, rfl⟩
  refine wpAny_bind (wpAny_callSpecial?_slot ht F.slot_zip_next (wpAny_call_entry F.slot_zip_next ht F.entry_zip_next ?_ (F.args_zip_next_1 _)))
  refine wpAny_mono h (fun fin s' ⟨v, e, q⟩ => ⟨v, e, wpAny_pure q⟩) fun _ _ e => e
/-- a turn of enumerate(zip(*rows)) -/
theorem en_item {e : Addr} {j : Int} {old : Value} {Q : Value → Shared → Prop} (S : Sep z TI TO cs) (hne : cs ≠ []) (h1000 : cs.length ≤ 1000) (he : IsEnum s.heap e z j old) (ez : e ≠ z ∧ e ≠ TO ∧ e ∉ cs.map (·.1) ∧ e ≠ TI ∧ ∀ c ∈ cs, c.2.1 ≠ e) (st : ZSt z TI TO cs i s.heap) (hlt : ∀ c ∈ cs, i < c.2.2.size)
    (q : ∀ h1 h' (ys : List Value) (tk : Nat), IsT h1 s.heap.objs.size ys → ys.length = cs.length → (∀ (k : Nat) (c : Col) (y : Value), cs[k]? = some c → ys[k]? = some y → c.2.2[i]? = some y) → h1.objs.size = s.heap.objs.size + 1 → (∀ b o, b ≠ z → b ≠ TO → b ∉ cs.map (·.1) → s.heap.get? b = some o → h1.get? b = some o) → (∀ b o, b ≠ e → h1.get? b = some o → h'.get? b = some o) → h'.get? (s.heap.objs.size + 1) = some { cls := .type "tuple", data := .seq #[.int j tk, .ref s.heap.objs.size] } → IsEnumOut h' e z (j + 1) (.ref s.heap.objs.size) (s.heap.objs.size + 1) → ZSt z TI TO cs (i + 1) h' → Q (.ref (s.heap.objs.size + 1)) { s with heap := h', toks := tk + 1 }) :
    wpAny (model prog w) A (Builtin.«enumerate.__next__» { pos := [.ref e] }) (fun fin s' => ∃ v, fin = .done (.ret v) ∧ Q v s') E s := by
  obtain ⟨f0, f1, hz, _⟩ := st.z
  have hel := Heap.lt_size he
  unfold Builtin.«enumerate.__next__»
  simp only [slotArgs]
  refine wpAny_bind (wpAny_pure ?_)
  refine wpAny_bind (wpAny_field he rfl rfl ?_)
  refine wpAny_bind (nextOf_zip hz (zn_item S hne h1000 st hlt fun h1 ys a1 a2 a3 a4 a5 a6 => ?_))
  have he1 : IsEnum h1 e z j old := a6 e _ ez.1 ez.2.1 ez.2.2.1 he
  refine wpAny_bind (wpAny_field he1 rfl rfl ?_)
  show wpAny (model prog w) A (do
      let given ← field (Value.ref e) 4
      if (given == Value.none) = true then do
          let index ← mkInt j
          setField (Value.ref e) 3 (rawInt (j + 1))
          setField (Value.ref e) 4 Value.none
          let result ← newTuple [index, Value.ref s.heap.objs.size]
          let __do_lift ← Builtin.SmallTypes.ownedTupleIsFree (Value.ref e)
          if __do_lift = true then do
              rule "enumerate.__next__.owned-tuple-again"
              let old ← field (Value.ref e) 5
              setField (Value.ref e) 5 (Value.ref s.heap.objs.size)
              Builtin.SmallTypes.ownedTupleHandOut (Value.ref e) result
              letGo [old] [result]
              ret result
            else ret result
        else do
          let index ← pure given
          setField (Value.ref e) 3 (rawInt (j + 1))
          setField (Value.ref e) 4 Value.none
          let result ← newTuple [index, Value.ref s.heap.objs.size]
          let __do_lift ← Builtin.SmallTypes.ownedTupleIsFree (Value.ref e)
          if __do_lift = true then do
              rule "enumerate.__next__.owned-tuple-again"
              let old ← field (Value.ref e) 5
              setField (Value.ref e) 5 (Value.ref s.heap.objs.size)
              Builtin.SmallTypes.ownedTupleHandOut (Value.ref e) result
              letGo [old] [result]
              ret result
            else ret result) _ _ _
  refine wpAny_bind (wpAny_field he1 rfl rfl ?_)
  refine wpAny_ite_true (by rfl) (wpAny_bind (wpAny_mkInt ?_))
  refine wpAny_bind (wpAny_setField_rec he1 (by simp) fun h2 hz2 sb2 => ?_)
  refine wpAny_bind (wpAny_setField_rec hz2 (by simp) fun h3 hz3 sb3 => ?_)
  refine wpAny_bind (wpAny_newTuple ?_ (by rw [sizeLine_eq]; simp))
  have hs3 : h3.objs.size = s.heap.objs.size + 1 := by rw [sb3.1, sb2.1, a5]
  have hez : e ≠ s.heap.objs.size + 1 := Nat.ne_of_lt (Nat.lt_succ_of_lt hel)
  have hz4 : (h3.push { cls := .type "tuple", data := .seq #[.int j s.toks, .ref s.heap.objs.size] }).get? e = some { cls := .type "enumerate", data := .fields #[.none, .bool false, .ref z, rawInt (j + 1), .none, old] } := Heap.get?_push_of_some _ hz3
  unfold Builtin.SmallTypes.ownedTupleIsFree
  refine wpAny_bind (wpAny_bind (wpAny_field hz4 rfl rfl ?_))
  refine wpAny_pure ?_
  refine wpAny_ite_true (by rfl) (wpAny_bind (wpAny_rule ?_))
  refine wpAny_bind (wpAny_field hz4 rfl rfl ?_)
  refine wpAny_bind (wpAny_setField_rec hz4 (by simp) fun h5 hz5 sb5 => ?_)
  unfold Builtin.SmallTypes.ownedTupleHandOut
  refine wpAny_bind (wpAny_bind (wpAny_setField_rec hz5 (by simp) fun h6 hz6 sb6 => ?_))
  refine wpAny_setField_rec hz6 (by simp) fun h7 hz7 sb7 => ?_
  refine wpAny_bind (wpAny_letGo ?_)
  refine wpAny_pure ⟨_, rfl, ?_⟩
  show Q (Value.ref h3.objs.size) _
  rw [hs3]
  have keep : ∀ {b o}, b ≠ e → h1.get? b = some o → h7.get? b = some o := fun hb hg => by
    rw [sb7.2 _ hb, sb6.2 _ hb, sb5.2 _ hb]
    refine Heap.get?_push_of_some _ ?_
    rw [sb3.2 _ hb, sb2.2 _ hb]; exact hg
  refine q h1 h7 ys s.toks a1 a2 a3 a5 a6 (fun b o hb hg => keep hb hg) ?_ ?_ ?_
  · rw [sb7.2 _ (Ne.symm hez), sb6.2 _ (Ne.symm hez), sb5.2 _ (Ne.symm hez), ← hs3]
    exact Heap.get?_push_size _ rfl
  · show h7.get? e = some { cls := .type "enumerate", data := .fields #[rawInt ((s.heap.objs.size + 1 : Nat) : Int), .bool false, .ref z, rawInt (j + 1), .none, .ref s.heap.objs.size] }
    rw [← hs3]; exact hz7
  · obtain ⟨⟨f0', f1', b1, b2⟩, b3, ⟨os, b4, b5⟩, b6⟩ := a4
    refine ⟨⟨f0', f1', keep (Ne.symm ez.1) b1, b2⟩, ?_, ⟨os, keep (Ne.symm ez.2.1) b4, b5⟩, fun c hc => ?_⟩
    · exact keep (Ne.symm ez.2.2.2.1) b3
    · obtain ⟨⟨o1, e1, e2⟩, ⟨o2, e3, e4⟩⟩ := b6 c hc
      exact ⟨⟨o1, keep (fun h => ez.2.2.1 (by rw [← h]; exact List.mem_map.mpr ⟨c, hc, rfl⟩)) e1, e2⟩, ⟨o2, keep (ez.2.2.2.2 c hc) e3, e4⟩⟩
/-- enumerate(zip(*rows)) is at its end -/
theorem en_end {e : Addr} {j : Int} {old : Value} {Q : PySem.Fin → Shared → Prop} (hh : A.in1.handled = none) (S : Sep z TI TO cs) (hne : cs ≠ []) (he : IsEnum s.heap e z j old) (st : ZSt z TI TO cs i s.heap) (hend : ∀ c ∈ cs, c.2.2.size = i)
    (q : ∀ h' e, (∀ b o, b ≠ z → b ∉ cs.map (·.1) → s.heap.get? b = some o → h'.get? b = some o) → (∃ o, h'.get? e = some o ∧ o.cls = .type "StopIteration") → E (.ref e) { s with heap := h' }) :
    wpAny (model prog w) A (Builtin.«enumerate.__next__» { pos := [.ref e] }) Q E s := by
  obtain ⟨f0, f1, hz, _⟩ := st.z
  unfold Builtin.«enumerate.__next__»
  simp only [slotArgs]
  refine wpAny_bind (wpAny_pure ?_)
  refine wpAny_bind (wpAny_field he rfl rfl ?_)
  refine wpAny_bind (nextOf_zip hz (zn_end hh S hne st hend q))
theorem meets_enumerate_newZ : Meets (Builtin.«enumerate.__new__» ⟨[.type "enumerate", .ref z], []⟩) (fun _ R s => (∃ TI TO f0, IsZip s.heap z TI TO f0) ∧
      R (.ok (.ret (.ref s.heap.objs.size))) { s with heap := s.heap.push { cls := .type "enumerate", data := .fields #[.none, .bool false, .ref z, rawInt 0, .none, .none] } }) :=
  .of_wp fun prog w A R s h => by
    obtain ⟨hp, g, d, tk, os⟩ := s; obtain ⟨⟨TI, TO, f0, h1⟩, h⟩ := h
    have hsub := sub_enumerate
    have q1 : ∀ {A' : Around} {E : Value → Shared → Prop} {Q : Value → Shared → Prop}, Q (.ref z) ⟨hp, g, d, tk, os⟩ → wpAny (model prog w) A' (pyIter (.ref z)) Q E ⟨hp, g, d, tk, os⟩ :=
      fun q => wpAny_pyIter_zip h1 q
    wp_walk using q1
    refine wpAny_stack_any fun st => wpAny_pure ?_
    split
    · rename_i c _ _ _ _ _
      cases (c == Value.type "enumerate")
      · wp_walk using q1
        exact ⟨_, rfl, h⟩
      · wp_walk using q1
        exact ⟨_, rfl, h⟩
    · wp_walk using q1
      exact ⟨_, rfl, h⟩
theorem enum_zip {f0 : Value} {Q : Value → Shared → Prop} (hz : IsZip s.heap z TI TO f0)
    (q : IsEnum (s.heap.push { cls := .type "enumerate", data := .fields #[.none, .bool false, .ref z, rawInt 0, .none, .none] }) s.heap.objs.size z 0 .none → Q (.ref s.heap.objs.size) { s with heap := s.heap.push { cls := .type "enumerate", data := .fields #[.none, .bool false, .ref z, rawInt 0, .none, .none] } }) :
    wpAny (model prog w) A (call (.type "enumerate") [.ref z]) Q E s := by
  refine callType_new F.called_enumerate (by decide) (F.typeCall_enumerate_1 _) (F.newCall_enumerate_1 _) (fun obj => F.args_object_init_2 obj _) F.entry_enumerate_new
    meets_enumerate_newZ ⟨⟨TI, TO, f0, hz⟩, ?_⟩
  have he : IsEnum (s.heap.push { cls := .type "enumerate", data := .fields #[.none, .bool false, .ref z, rawInt 0, .none, .none] }) s.heap.objs.size z 0 .none := Heap.get?_push_size s.heap (o := { cls := .type "enumerate", data := .fields #[.none, .bool false, .ref z, rawInt 0, .none, .none] }) rfl
  exact ⟨⟨_, he, rfl⟩, q he⟩
theorem next_enum {e : Addr} {j : Int} {old : Value} {Q : Option Value → Shared → Prop} (he : IsEnum s.heap e z j old) (h : wpAny (model prog w) A.in1 (Builtin.«enumerate.__next__» { pos := [.ref e] }) (fun fin s' => ∃ v, fin = .done (.ret v) ∧ Q (some v) s') (fun x s' => (∃ o a, x = .ref a ∧ s'.heap.get? a = some o ∧ o.cls = .type "StopIteration") ∧ Q none s') s) :
    wpAny (model prog w) A (pyNext (.ref e)) Q E s := by
  unfold pyNext
  have ht : s.TypeIs (.ref e) "enumerate" := ⟨_, he, rfl⟩
  refine wpAny_bind (wpAny_attempt (wpAny_callSpecial?_slot ht F.slot_enumerate_next (wpAny_call_entry F.slot_enumerate_next ht F.entry_enumerate_next ?_ (F.args_enumerate_next_1 _))))
  refine wpAny_mono h (fun fin s' ⟨v, e, q⟩ => ⟨v, e, wpAny_pure q⟩) fun x s' ⟨⟨o, a, ex, e1, e2⟩, q⟩ => ?_
  subst ex
  refine wpAny_bind (wpAny_isInstance ⟨o, e1, e2⟩ isSubtype_stop ?_)
  exact wpAny_pure q
end
/-- enumerate(zip(*rows)): the rows stand at ts -/
def ItZ (K : PySem.W.Frag) (ts : List Addr) : It :=
  ⟨fun i H => ∃ xss : List (List V), ts.length = xss.length ∧ (∀ (k : Nat) (t : Addr) (xs : List V), ts[k]? = some t → xss[k]? = some xs → SqT K H t xs) ∧ ∀ xs ∈ xss, i < xs.length,
    fun i H v H' => ∃ (T L : Addr) (col : List V), v = .ref T ∧ H L = none ∧ H T = none ∧ T ≠ L ∧ H' = upd (upd H L (.tup col)) T (.tup [.int (i : Nat), .ref L]) ∧ col.length = ts.length ∧ ∀ (k : Nat) (t : Addr) (xs : List V), ts[k]? = some t → SqT K H t xs → ∃ x, xs[i]? = some x ∧ col[k]? = some x,
    fun i H => ∃ xss : List (List V), ts.length = xss.length ∧ (∀ (k : Nat) (t : Addr) (xs : List V), ts[k]? = some t → xss[k]? = some xs → SqT K H t xs) ∧ ∀ xs ∈ xss, xs.length = i⟩
theorem tup_inj {h : Heap} {a : Addr} {x y : Array Value} (p : h.IsTuple a x) (q : h.IsTuple a y) : x = y := by
  obtain ⟨o, e, c, n, d⟩ := p
  obtain ⟨o', e', c', n', d'⟩ := q
  rw [e] at e'; cases e'
  rw [d] at d'; cases d'; rfl
/-- iterators and rows, without what stands in the rows -/
abbrev Row := Addr × Addr
structure ZS (z TI TO : Addr) (ds : List Row) (i : Nat) (h : Heap) : Prop where
  z : ∃ f0 f1, IsZ h z TI TO f0 f1 ∧ (f0 = .none ∨ ∃ a : Nat, f0 = rawInt a)
  ti : IsT h TI (ds.map fun d => .ref d.1)
  to : ∃ os, IsT h TO os ∧ os.length = ds.length
  it : ∀ d ∈ ds, h.IsTupleIter d.1 d.2 i
def mkc (ds : List Row) (as : List (Array Value)) : List Col := List.zipWith (fun d x => (d.1, d.2, x)) ds as
theorem mkc_len {ds : List Row} {as : List (Array Value)} (h : as.length = ds.length) : (mkc ds as).length = ds.length := by unfold mkc; rw [List.length_zipWith]; omega
theorem mkc_map {β : Type} (f : Row → β) : ∀ {ds : List Row} {as : List (Array Value)}, as.length = ds.length → (mkc ds as).map (fun c => f (c.1, c.2.1)) = ds.map f
  | [], _, _ => rfl
  | d :: ds, [], h => by simp at h
  | d :: ds, a :: as, h => by
    show f (d.1, d.2) :: (mkc ds as).map _ = _
    rw [mkc_map f (by simpa using h)]; rfl
theorem mkc_mem : ∀ {ds : List Row} {as : List (Array Value)} {c : Col}, c ∈ mkc ds as → ∃ k : Nat, ds[k]? = some (c.1, c.2.1) ∧ as[k]? = some c.2.2
  | [], _, c, h => by simp [mkc] at h
  | d :: ds, [], c, h => by simp [mkc] at h
  | d :: ds, a :: as, c, h => by
    rcases List.mem_cons.mp (show c ∈ (d.1, d.2, a) :: mkc ds as from h) with rfl | h
    · exact ⟨0, rfl, rfl⟩
    · obtain ⟨k, h1, h2⟩ := mkc_mem h
      exact ⟨k + 1, by simpa using h1, by simpa using h2⟩
theorem mkc_get {ds : List Row} {as : List (Array Value)} {k : Nat} {d : Row} {x : Array Value} (h1 : ds[k]? = some d) (h2 : as[k]? = some x) : (mkc ds as)[k]? = some (d.1, d.2, x) := by
  unfold mkc
  rw [List.getElem?_zipWith, h1, h2]
structure Fp (e z TI TO : Addr) (ds : List Row) : Prop where
  nd : (ds.map (·.1)).Nodup
  it : ∀ d ∈ ds, d.1 ≠ z ∧ d.1 ≠ TI ∧ d.1 ≠ TO ∧ d.1 ≠ e
  tu : ∀ d ∈ ds, d.2 ≠ z ∧ d.2 ≠ TO ∧ d.2 ∉ ds.map (·.1) ∧ d.2 ≠ e
  zt : TI ≠ z ∧ TO ≠ z ∧ TI ≠ TO ∧ e ≠ z ∧ e ≠ TO ∧ e ≠ TI
theorem Fp.sep {e z TI TO : Addr} {ds : List Row} (F : Fp e z TI TO ds) {as : List (Array Value)} (h : as.length = ds.length) : Sep z TI TO (mkc ds as) := by
  have e1 := mkc_map (fun d => d.1) h
  have hm : ∀ {c}, c ∈ mkc ds as → (c.1, c.2.1) ∈ ds := fun hc => by obtain ⟨k, h1, _⟩ := mkc_mem hc; exact List.mem_of_getElem? h1
  refine ⟨by rw [show (mkc ds as).map (·.1) = ds.map (·.1) from e1]; exact F.nd, fun c hc => ?_, fun c hc => ?_, F.zt.1, F.zt.2.1, F.zt.2.2.1⟩
  · have := F.it _ (hm hc); exact ⟨this.1, this.2.1, this.2.2.1⟩
  · have := F.tu _ (hm hc)
    refine ⟨this.1, this.2.1, ?_⟩
    rw [show (mkc ds as).map (·.1) = ds.map (·.1) from e1]; exact this.2.2.1
theorem ZS.full {z TI TO : Addr} {ds : List Row} {i : Nat} {h : Heap} {as : List (Array Value)} (st : ZS z TI TO ds i h) (hl : as.length = ds.length) (ht : ∀ (k : Nat) (d : Row) (x : Array Value), ds[k]? = some d → as[k]? = some x → h.IsTuple d.2 x) : ZSt z TI TO (mkc ds as) i h := by
  obtain ⟨hz, hti, ⟨os, ho, hol⟩, hit⟩ := st
  refine ⟨hz, ?_, ⟨os, ho, by rw [mkc_len hl]; exact hol⟩, fun c hc => ?_⟩
  · rw [show (mkc ds as).map (fun c => Value.ref c.1) = ds.map (fun d => Value.ref d.1) from mkc_map (fun d => Value.ref d.1) hl]; exact hti
  · obtain ⟨k, h1, h2⟩ := mkc_mem hc
    exact ⟨hit _ (List.mem_of_getElem? h1), ht k _ _ h1 h2⟩
theorem ZSt.less {z TI TO : Addr} {ds : List Row} {i : Nat} {h : Heap} {as : List (Array Value)} (hl : as.length = ds.length) (st : ZSt z TI TO (mkc ds as) i h) : ZS z TI TO ds i h := by
  obtain ⟨hz, hti, ⟨os, ho, hol⟩, hat⟩ := st
  refine ⟨hz, ?_, ⟨os, ho, by rw [← mkc_len hl]; exact hol⟩, fun d hd => ?_⟩
  · rw [← show (mkc ds as).map (fun c => Value.ref c.1) = ds.map (fun d => Value.ref d.1) from mkc_map (fun d => Value.ref d.1) hl]; exact hti
  · obtain ⟨k, hk⟩ := List.mem_iff_getElem?.mp hd
    have hkl := (List.getElem?_eq_some_iff.mp hk).1
    have := hat _ (List.mem_of_getElem? (mkc_get hk (List.getElem?_eq_getElem (by omega))))
    exact this.1
def fpZ (e z TI TO : Addr) (ds : List Row) : List Addr := e :: z :: TI :: TO :: ds.map (·.1)
theorem ex_list {β : Type} {P : Nat → β → Prop} : ∀ n, (∀ k, k < n → ∃ x, P k x) → ∃ l : List β, l.length = n ∧ ∀ (k : Nat) (x : β), l[k]? = some x → P k x
  | 0, _ => ⟨[], rfl, fun k x h => by simp at h⟩
  | n + 1, h => by
    obtain ⟨l, h1, h2⟩ := ex_list n fun k hk => h k (by omega)
    obtain ⟨x, hx⟩ := h n (by omega)
    refine ⟨l ++ [x], by simp [h1], fun k y hy => ?_⟩
    by_cases hk : k < n
    · rw [List.getElem?_append_left (by omega)] at hy; exact h2 k y hy
    · rw [List.getElem?_append_right (by omega)] at hy
      have : k - l.length = 0 := by have := (List.getElem?_eq_some_iff.mp hy).1; simp at this; omega
      rw [this] at hy
      have e : k = n := by omega
      subst e
      simp at hy; subst hy; exact hx
theorem vals_of : ∀ (vs : List V) (us : List Value), vs.length = us.length → (∀ (k : Nat) (v : V) (u : Value), vs[k]? = some v → us[k]? = some u → RelV v u) → Vals vs us
  | [], [], _, _ => .nil
  | [], _ :: _, h, _ => by simp at h
  | _ :: _, [], h, _ => by simp at h
  | v :: vs, u :: us, h, r => .cons (r 0 v u rfl rfl) (vals_of vs us (by simpa using h) fun k v' u' h1 h2 => r (k + 1) v' u' (by simpa using h1) (by simpa using h2))
theorem fpZ_cases {e z TI TO b : Addr} {ds : List Row} (h : b ∉ fpZ e z TI TO ds) : b ≠ e ∧ b ≠ z ∧ b ≠ TI ∧ b ≠ TO ∧ b ∉ ds.map (·.1) := by
  simp only [fpZ, List.mem_cons, not_or] at h
  exact ⟨h.1, h.2.1, h.2.2.1, h.2.2.2.1, h.2.2.2.2⟩
theorem rows_of {X : Cx} {pins : List (Addr × Obj)} {σ : L2.St} {H : Hp} {s : Shared} {ds : List Row} {xss : List (List V)} (I : Inv X pins σ H s) (hl : ds.length = xss.length) (hx : ∀ (k : Nat) (t : Addr) (xs : List V), (ds.map (·.2))[k]? = some t → xss[k]? = some xs → SqT X.K H t xs) :
    ∃ as : List (Array Value), as.length = ds.length ∧ ∀ (k : Nat) (x : Array Value), as[k]? = some x → ∀ (d : Row) (xs : List V), ds[k]? = some d → xss[k]? = some xs → s.heap.IsTuple d.2 x ∧ ∃ its : List Value, Vals xs its ∧ x = its.toArray := by
  refine ex_list (P := fun k x => ∀ (d : Row) (xs : List V), ds[k]? = some d → xss[k]? = some xs → s.heap.IsTuple d.2 x ∧ ∃ its : List Value, Vals xs its ∧ x = its.toArray) ds.length fun k hk => ?_
  have h1 := hx k _ _ (by rw [List.getElem?_map, List.getElem?_eq_getElem hk]; rfl) (List.getElem?_eq_getElem (by omega))
  obtain ⟨its, rv, p, _⟩ := I.tuple h1
  refine ⟨its.toArray, fun d xs e1 e2 => ?_⟩
  rw [List.getElem?_eq_getElem hk] at e1
  rw [List.getElem?_eq_getElem (by omega)] at e2
  cases e1; cases e2
  exact ⟨p, its, rv, rfl⟩
theorem turn_Z {P : Program} {w : World} {K : PySem.W.Frag} {elts : List PySem.Expr} {kk : Nat} {tpos : Pos} {e z TI TO : Addr} {ds : List Row} (F : Fp e z TI TO ds) (hne : ds ≠ []) (h1000 : ds.length ≤ 1000) :
    Turn P w K (.Tuple elts kk tpos) (ItZ K (ds.map (·.2))) (fpZ e z TI TO ds) e (fun i h => (∃ old, IsEnum h e z ((i : Nat) : Int) old) ∧ ZS z TI TO ds i h) where
  mem := by simp [fpZ]
  obj := fun i h st b hb => by
    obtain ⟨⟨old, he⟩, ⟨⟨f0, f1, hz, _⟩, hTI, ⟨os, hTO, _⟩, hat⟩⟩ := st
    rcases List.mem_cons.mp hb with q | hb
    · rw [q]; exact ⟨_, he, fun v q => nomatch q⟩
    rcases List.mem_cons.mp hb with q | hb
    · rw [q]; exact ⟨_, hz, fun v q => nomatch q⟩
    rcases List.mem_cons.mp hb with q | hb
    · rw [q]; exact ⟨_, hTI, fun v q => nomatch q⟩
    rcases List.mem_cons.mp hb with q | hb
    · rw [q]; exact ⟨_, hTO, fun v q => nomatch q⟩
    obtain ⟨c, hc, rfl⟩ := List.mem_map.mp hb
    obtain ⟨o, e1, _, e2⟩ := hat c hc
    exact ⟨o, e1, fun v q => by rw [e2] at q; cases q⟩
  keep := fun i h h' st k => by
    obtain ⟨⟨old, he⟩, ⟨⟨f0, f1, hz, hf⟩, hTI, ⟨os, hTO, ho⟩, hat⟩⟩ := st
    refine ⟨⟨old, k e (by simp [fpZ]) _ he⟩, ⟨f0, f1, k z (by simp [fpZ]) _ hz, hf⟩, k TI (by simp [fpZ]) _ hTI, ⟨os, k TO (by simp [fpZ]) _ hTO, ho⟩, fun d hd => ?_⟩
    obtain ⟨o, e1, e2⟩ := hat d hd
    exact ⟨o, k d.1 (by simp only [fpZ, List.mem_cons]; exact .inr (.inr (.inr (.inr (List.mem_map.mpr ⟨d, hd, rfl⟩))))) _ e1, e2⟩
  item := by
    intro X hP hw hK hc i pins s σ H E I hf st hg
    subst hP hw hK
    obtain ⟨⟨old, he⟩, zs⟩ := st
    obtain ⟨xss, hl, hx, hlt⟩ := hg
    rw [List.length_map] at hl
    obtain ⟨as, hal, has⟩ := rows_of I hl hx
    have hsz : ∀ c ∈ mkc ds as, ∃ (k : Nat) (xs : List V) (its : List Value), ds[k]? = some (c.1, c.2.1) ∧ xss[k]? = some xs ∧ Vals xs its ∧ c.2.2 = its.toArray := fun c hc' => by
      obtain ⟨k, h1, h2⟩ := mkc_mem hc'
      have hk := (List.getElem?_eq_some_iff.mp h1).1
      obtain ⟨xs, hxs⟩ : ∃ xs, xss[k]? = some xs := ⟨_, List.getElem?_eq_getElem (by omega)⟩
      obtain ⟨_, its, rv, ex⟩ := has k _ h2 _ _ h1 hxs
      exact ⟨k, xs, its, h1, hxs, rv, ex⟩
    have full := zs.full hal fun k d x h1 h2 => by
      have hk := (List.getElem?_eq_some_iff.mp h1).1
      exact (has k x h2 d _ h1 (List.getElem?_eq_getElem (by omega))).1
    have S := F.sep hal
    have hne' : mkc ds as ≠ [] := fun h => hne (List.length_eq_zero_iff.mp (by rw [← mkc_len hal, h]; rfl))
    have emap : (mkc ds as).map (·.1) = ds.map (·.1) := mkc_map (fun d => d.1) hal
    have hel := Heap.lt_size he
    have ez : e ≠ z ∧ e ≠ TO ∧ e ∉ (mkc ds as).map (·.1) ∧ e ≠ TI ∧ ∀ c ∈ mkc ds as, c.2.1 ≠ e := by
      refine ⟨F.zt.2.2.2.1, F.zt.2.2.2.2.1, ?_, F.zt.2.2.2.2.2, fun c hc' => ?_⟩
      · rw [emap]; intro h; obtain ⟨d, hd, q⟩ := List.mem_map.mp h; exact (F.it d hd).2.2.2 q
      · obtain ⟨k, h1, _⟩ := mkc_mem hc'
        exact (F.tu _ (List.mem_of_getElem? h1)).2.2.2
    refine next_enum he (en_item S hne' (by rw [mkc_len hal]; exact h1000) he ez full (fun c hc' => ?_) fun h1 h' ys tk a1 a2 a3 a4 a5 a6 a7 a8 a9 => ?_)
    · obtain ⟨k, xs, its, q1, q2, rv, ex⟩ := hsz c hc'
      have := hlt xs (List.mem_of_getElem? q2)
      rw [ex]; simp; rw [← rv.length]; exact this
    · refine ⟨_, rfl, wpAny_letOwnedTupleGo_enum (s := { s with heap := h', toks := tk + 1 }) a8 fun h'' he' sb => ?_⟩
      rw [mkc_len hal] at a2
      have hcol : Vals (xss.map fun xs => xs.getD i .non) ys := vals_of _ _ (by rw [List.length_map]; omega) fun k v u e1 e2 => by
        rw [List.getElem?_map, Option.map_eq_some_iff] at e1
        obtain ⟨xs, hxs, rfl⟩ := e1
        have hk := (List.getElem?_eq_some_iff.mp hxs).1
        obtain ⟨d, hd⟩ : ∃ d, ds[k]? = some d := ⟨_, List.getElem?_eq_getElem (by omega)⟩
        obtain ⟨x, hxa⟩ : ∃ x, as[k]? = some x := ⟨_, List.getElem?_eq_getElem (by omega)⟩
        obtain ⟨_, its, rv, ex⟩ := has k x hxa d xs hd hxs
        have e3 := a3 k _ u (mkc_get hd hxa) e2
        rw [ex] at e3
        have hi := hlt xs (List.mem_of_getElem? hxs)
        obtain ⟨u', hu', ru⟩ := rv.get (List.getElem?_eq_getElem hi)
        have : u' = u := by
          have e4 : its[i]? = some u := by simpa using e3
          rw [hu'] at e4; exact Option.some.inj e4
        subst this
        rw [List.getD_eq_getElem?_getD, List.getElem?_eq_getElem hi]
        exact ru
      have hys : ys.length ≤ sizeLine := by rw [sizeLine_eq]; omega
      have new1 : ObjOk X.prog X.w (upd H s.heap.objs.size (.tup (xss.map fun xs => xs.getD i .non))) h1 s.heap.objs.size (.tup (xss.map fun xs => xs.getD i .non)) :=
        ⟨by rw [List.length_map, ← hl, ← a2]; exact hys, ys, hcol, ⟨_, a1, rfl, _, rfl⟩⟩
      have I1 : Inv X pins σ (upd H s.heap.objs.size (.tup (xss.map fun xs => xs.getD i .non))) { s with heap := h1, toks := tk + 1 } :=
        I.turnedNew (t' := tk + 1) (ch := fpZ e z TI TO ds) (fun b o hb q => by
          have := fpZ_cases hb
          exact a5 b o this.2.1 this.2.2.2.1 (by rw [emap]; exact this.2.2.2.2) q) hf (Nat.le_refl _) new1
      have hL : s.heap.objs.size ≠ s.heap.objs.size + 1 := Nat.ne_of_lt (Nat.lt_succ_self _)
      have heL : e ≠ s.heap.objs.size := Nat.ne_of_lt hel
      have heT : e ≠ s.heap.objs.size + 1 := Nat.ne_of_lt (Nat.lt_succ_of_lt hel)
      have hT2 : h''.get? (s.heap.objs.size + 1) = some { cls := .type "tuple", data := .seq #[.int i tk, .ref s.heap.objs.size] } := (sb.2 _ (Ne.symm heT)).trans a7
      have new2 : ObjOk X.prog X.w (upd (upd H s.heap.objs.size (.tup (xss.map fun xs => xs.getD i .non))) (s.heap.objs.size + 1) (.tup [.int (i : Nat), .ref s.heap.objs.size])) h'' (s.heap.objs.size + 1) (.tup [.int (i : Nat), .ref s.heap.objs.size]) :=
        ⟨by show 2 ≤ sizeLine; decide, [.int i tk, .ref s.heap.objs.size], .cons ⟨_, rfl⟩ (.cons rfl .nil), ⟨_, hT2, rfl, _, rfl⟩⟩
      have fe := hf e (by simp [fpZ])
      have I2 : Inv X pins σ (upd (upd H s.heap.objs.size (.tup (xss.map fun xs => xs.getD i .non))) (s.heap.objs.size + 1) (.tup [.int (i : Nat), .ref s.heap.objs.size])) { s with heap := h'', toks := tk + 1 } :=
        I1.turnedNew (t' := tk + 1) (ch := [e]) (fun b o hb q => by
          have hbe : b ≠ e := by simpa using hb
          exact (sb.2 b hbe).trans (a6 b o hbe q)) (fun b hb => by
            rw [List.mem_singleton.mp hb]
            exact ⟨by rw [upd_ne heL]; exact fe.1, fe.2⟩) (by show h1.objs.size ≤ _; rw [a4]; exact Nat.le_refl _) new2
      refine ⟨.ref (s.heap.objs.size + 1), _, I2, rfl, ⟨s.heap.objs.size + 1, s.heap.objs.size, _, rfl, I.hok.fresh (Nat.le_refl _), I.hok.fresh (Nat.le_succ _), Ne.symm hL, rfl, by rw [List.length_map, List.length_map]; omega, fun k t xs e1 e2 => ?_⟩, ⟨⟨.ref s.heap.objs.size, ?_⟩, ?_⟩, fun b hb => ?_⟩
      · have hk := (List.getElem?_eq_some_iff.mp e1).1
        rw [List.length_map] at hk
        obtain ⟨xs', hxs'⟩ : ∃ xs', xss[k]? = some xs' := ⟨_, List.getElem?_eq_getElem (by omega)⟩
        have := I.tuple_inj e2 (hx k t xs' e1 hxs')
        subst this
        have hi := hlt xs (List.mem_of_getElem? hxs')
        refine ⟨xs[i], List.getElem?_eq_getElem hi, ?_⟩
        rw [List.getElem?_map, hxs']
        show some (xs.getD i .non) = _
        rw [List.getD_eq_getElem?_getD, List.getElem?_eq_getElem hi]; rfl
      · have e1 : ((i + 1 : Nat) : Int) = (i : Int) + 1 := by omega
        rw [e1]; exact he'
      · obtain ⟨⟨f0, f1, b1, b2⟩, b3, ⟨os, b4, b5⟩, b6⟩ := a9.less hal
        have k2 : ∀ {b o}, b ≠ e → h'.get? b = some o → h''.get? b = some o := fun hb q => (sb.2 _ hb).trans q
        refine ⟨⟨f0, f1, k2 (Ne.symm F.zt.2.2.2.1) b1, b2⟩, k2 (Ne.symm F.zt.2.2.2.2.2) b3, ⟨os, k2 (Ne.symm F.zt.2.2.2.2.1) b4, b5⟩, fun d hd => ?_⟩
        obtain ⟨o, q1, q2⟩ := b6 d hd
        exact ⟨o, k2 (F.it d hd).2.2.2 q1, q2⟩
      · have hbl : b < s.heap.objs.size := by
          rcases List.mem_cons.mp hb with q | hb
          · rw [q]; exact hel
          rcases List.mem_cons.mp hb with q | hb
          · rw [q]; obtain ⟨f0, f1, hz, _⟩ := zs.z; exact Heap.lt_size hz
          rcases List.mem_cons.mp hb with q | hb
          · rw [q]; exact Heap.lt_size zs.ti
          rcases List.mem_cons.mp hb with q | hb
          · rw [q]; obtain ⟨os, ho, _⟩ := zs.to; exact Heap.lt_size ho
          obtain ⟨d, hd, rfl⟩ := List.mem_map.mp hb
          obtain ⟨o, q1, _⟩ := zs.it d hd
          exact Heap.lt_size q1
        rw [upd_ne (Nat.ne_of_lt (Nat.lt_succ_of_lt hbl)), upd_ne (Nat.ne_of_lt hbl)]
        exact (hf b hb).1
  done := by
    intro X hP hw hK hc i pins s σ H E I hf st hg
    subst hP hw hK
    obtain ⟨⟨old, he⟩, zs⟩ := st
    obtain ⟨xss, hl, hx, hend⟩ := hg
    rw [List.length_map] at hl
    obtain ⟨as, hal, has⟩ := rows_of I hl hx
    have full := zs.full hal fun k d x h1 h2 => by
      have hk := (List.getElem?_eq_some_iff.mp h1).1
      exact (has k x h2 d _ h1 (List.getElem?_eq_getElem (by omega))).1
    have S := F.sep hal
    have hne' : mkc ds as ≠ [] := fun h => hne (List.length_eq_zero_iff.mp (by rw [← mkc_len hal, h]; rfl))
    have emap : (mkc ds as).map (·.1) = ds.map (·.1) := mkc_map (fun d => d.1) hal
    have hh : X.A.in1.handled = none := I.ok.hd hc
    refine next_enum he (en_end hh S hne' he full (fun c hc' => ?_) fun h' x fr ho => ?_)
    · obtain ⟨k, h1, h2⟩ := mkc_mem hc'
      have hk := (List.getElem?_eq_some_iff.mp h1).1
      obtain ⟨xs, hxs⟩ : ∃ xs, xss[k]? = some xs := ⟨_, List.getElem?_eq_getElem (by omega)⟩
      obtain ⟨_, its, rv, ex⟩ := has k _ h2 _ _ h1 hxs
      rw [ex]; simp; rw [← rv.length]; exact hend xs (List.mem_of_getElem? hxs)
    · obtain ⟨o, o1, o2⟩ := ho
      refine ⟨⟨o, x, rfl, o1, o2⟩, rfl, I.turnedL (t' := s.toks) (ch := fpZ e z TI TO ds) (fun b o hb q => ?_) hf⟩
      have := fpZ_cases hb
      exact fr b o this.2.1 (by rw [emap]; exact this.2.2.2.2) q
  self := fun A i s Q E st h => let ⟨⟨_, he⟩, _⟩ := st; wpAny_pyIter_enum he h
theorem sep_new {s : Shared} {ts : List (Addr × Array Value)} (ht : ∀ t ∈ ts, t.1 < s.heap.objs.size) :
    Fp (s.heap.objs.size + ts.length + 3) (s.heap.objs.size + ts.length + 2) (s.heap.objs.size + ts.length) (s.heap.objs.size + ts.length + 1) ((colsOf s.heap.objs.size ts).map fun c => (c.1, c.2.1)) := by
  have hc : ∀ {c : Col}, c ∈ colsOf s.heap.objs.size ts → s.heap.objs.size ≤ c.1 ∧ c.1 < s.heap.objs.size + ts.length ∧ c.2.1 < s.heap.objs.size := fun h => by
    obtain ⟨h1, h2, h3⟩ := colsOf_mem h
    exact ⟨h1, h2, ht _ h3⟩
  have hm : ((colsOf s.heap.objs.size ts).map fun c => ((c.1, c.2.1) : Row)).map (·.1) = (colsOf s.heap.objs.size ts).map (·.1) := by rw [List.map_map]; rfl
  refine ⟨by rw [hm]; exact colsOf_nd _ _, fun d hd => ?_, fun d hd => ?_, Nat.ne_of_lt (by omega), Nat.ne_of_lt (by omega), Nat.ne_of_lt (by omega), Nat.ne_of_gt (by omega), Nat.ne_of_gt (by omega), Nat.ne_of_gt (by omega)⟩
  · obtain ⟨c, h, rfl⟩ := List.mem_map.mp hd
    obtain ⟨h1, h2, h3⟩ := hc h
    exact ⟨Nat.ne_of_lt (Nat.lt_of_lt_of_le h2 (by omega)), Nat.ne_of_lt h2, Nat.ne_of_lt (Nat.lt_of_lt_of_le h2 (by omega)), Nat.ne_of_lt (Nat.lt_of_lt_of_le h2 (by omega))⟩
  · obtain ⟨c, h, rfl⟩ := List.mem_map.mp hd
    obtain ⟨h1, h2, h3⟩ := hc h
    refine ⟨Nat.ne_of_lt (Nat.lt_of_lt_of_le h3 (by omega)), Nat.ne_of_lt (Nat.lt_of_lt_of_le h3 (by omega)), ?_, Nat.ne_of_lt (Nat.lt_of_lt_of_le h3 (by omega))⟩
    rw [hm]
    intro hm2
    obtain ⟨c', h', e⟩ := List.mem_map.mp hm2
    have q := (hc h').1
    have e : c'.1 = c.2.1 := e
    rw [e] at q
    exact absurd h3 (Nat.not_lt.mpr q)
/-- type(*xs) -/
theorem callWith_typeS {X : Cx} {pins : List (Addr × Obj)} {σ : L2.St} {H : Hp} {s : Shared} {T : String} {e : PySem.Expr} {te : TE} {sp pos : Pos} {Q : Value → Shared → Prop} (I : Inv X pins σ H s) (he : PE X e te)
    {k : VK} (h : te σ H k) (hk : ∀ y H1, k y H1 → ∃ a xs, y = V.ref a ∧ (SqT X.K H1 a xs ∨ SqL X.K H1 a xs) ∧ ∀ us s', Inv X pins σ H1 s' → Vals xs us → wpAny (model X.prog X.w) X.A (call (.type T) us) Q X.xe s')
    (hs : starEach [e.Starred sp] X.env = [(true, eval e X.env)] := by rfl) :
    wpAny (model X.prog X.w) X.A (callWith pos (.type T) [] (backTo pos (starEach [e.Starred sp] X.env)) []) Q X.xe s := by
  rw [hs]
  refine W.ks_call (P := fun _ => True) (by rfl) (fun h _ => ⟨.machine, .inr (.inl rfl), fun A Q E s _ q => wpAny_pure q⟩) (W.ks_lone ?_)
  refine wpAny_mono (he.run pins s σ H _ I h) (fun v s1 ⟨y, H1, I1, r1, hq⟩ => ?_) fun _ _ x => x
  obtain ⟨a, xs, e1, hq', q⟩ := hk y H1 hq
  subst e1
  cases r1
  exact StX.star_any I1 hq' fun us s' I' rv => ⟨trivial, q us s' I' rv⟩
def iEnumZ (K : PySem.W.Frag) (te : TE) : TI := fun σ H R => te σ H fun y H1 => ∃ (a : Addr) (ts : List Addr) (xss : List (List V)), y = .ref a ∧ SqT K H1 a (ts.map V.ref) ∧ ts ≠ [] ∧ ts.length ≤ 12 ∧ ts.length = xss.length ∧ (∀ (k : Nat) (t : Addr) (xs : List V), ts[k]? = some t → xss[k]? = some xs → SqT K H1 t xs) ∧ R (ItZ K ts) H1
theorem pi_enumZ {X : Cx} {e : PySem.Expr} {te : TE} {p p2 sp pos pos2 tpos : Pos} {elts : List PySem.Expr} {kk : Nat} (hg : Gl X "enumerate") (hm : X.mg "enumerate" = none) (hgz : Gl X "zip") (hmz : X.mg "zip" = none) (he : PE X e te)
    (hs : starEach [.Call (.Name "zip" p2) [e.Starred sp] [] pos2] X.env = [(false, eval (.Call (.Name "zip" p2) [e.Starred sp] [] pos2) X.env)] := by rfl) (hs2 : starEach [e.Starred sp] X.env = [(true, eval e X.env)] := by rfl) :
    PI X (.Tuple elts kk tpos) (.Call (.Name "enumerate" p) [.Call (.Name "zip" p2) [e.Starred sp] [] pos2] [] pos) (iEnumZ X.K te) := by
  refine ⟨fun pins s σ H R I h => ?_⟩
  refine Call_ (ld_blt I hg hm boot_enumerate (PyProof.Rows.callWith_type1 ?_ hs rfl))
  rw [hs]
  refine Calls.spliced_cons ?_
  refine wpAny_ite_false (by decide) ?_
  refine Call_ (ld_blt I hgz hmz boot_zip (callWith_typeS I he h (fun y H1 hq => ?_) hs2))
  obtain ⟨a, ts, xss, ey, hT, hne, h12, hl, hx, hR⟩ := hq
  refine ⟨a, ts.map V.ref, ey, .inl hT, fun us s1 I1 rv => ?_⟩
  have eus : us = ts.map Value.ref := by
    clear hT hx hR hl h12 hne
    induction ts generalizing us with
    | nil => cases rv; rfl
    | cons t ts ih =>
      cases rv with
      | cons r rr => cases r; rw [ih _ rr]; rfl
  subst eus
  -- what stands in the rows
  obtain ⟨as, hal, has⟩ : ∃ as : List (Array Value), as.length = ts.length ∧ ∀ (k : Nat) (x : Array Value), as[k]? = some x → ∀ t, ts[k]? = some t → s1.heap.IsTuple t x := by
    refine ex_list (P := fun k x => ∀ t, ts[k]? = some t → s1.heap.IsTuple t x) ts.length fun k hk => ?_
    obtain ⟨its, rv, p, _⟩ := I1.tuple (hx k _ _ (List.getElem?_eq_getElem hk) (List.getElem?_eq_getElem (by omega)))
    refine ⟨its.toArray, fun t e1 => ?_⟩
    rw [List.getElem?_eq_getElem hk] at e1
    cases e1; exact p
  have hzl : (ts.zip as).length = ts.length := by rw [List.length_zip]; omega
  have hmap : (ts.zip as).map (fun t => Value.ref t.1) = ts.map Value.ref := by
    rw [show (fun t : Addr × Array Value => Value.ref t.1) = Value.ref ∘ Prod.fst from rfl, ← List.map_map, List.map_fst_zip (by omega)]
  have hit : ∀ t ∈ ts.zip as, s1.heap.IsTuple t.1 t.2 := fun t ht => by
    obtain ⟨k, hk⟩ := List.mem_iff_getElem?.mp ht
    rw [List.getElem?_zip_eq_some] at hk
    exact has k t.2 hk.2 t.1 hk.1
  rw [← hmap]
  refine zip_begins hit (by omega) fun h' st hz hsz up => ?_
  refine wpAny_pure ?_
  refine enum_zip hz fun hen => wpAny_pyIter_enum hen ?_
  have up2 : ∀ {b o}, h'.get? b = some o → (h'.push { cls := .type "enumerate", data := .fields #[.none, .bool false, .ref (s1.heap.objs.size + (ts.zip as).length + 2), rawInt 0, .none, .none] }).get? b = some o := fun e => Heap.get?_push_of_some _ e
  have I2 : Inv X pins σ H1 { s1 with heap := h'.push { cls := .type "enumerate", data := .fields #[.none, .bool false, .ref (s1.heap.objs.size + (ts.zip as).length + 2), rawInt 0, .none, .none] } } := I1.kept (t' := s1.toks) fun b o e => up2 (up b o e)
  have F := sep_new (s := s1) (ts := ts.zip as) fun t ht => by obtain ⟨o, e1, _⟩ := hit t ht; exact Heap.lt_size e1
  have zs : ZS (s1.heap.objs.size + (ts.zip as).length + 2) (s1.heap.objs.size + (ts.zip as).length) (s1.heap.objs.size + (ts.zip as).length + 1) ((colsOf s1.heap.objs.size (ts.zip as)).map fun c => (c.1, c.2.1)) 0 (h'.push { cls := .type "enumerate", data := .fields #[.none, .bool false, .ref (s1.heap.objs.size + (ts.zip as).length + 2), rawInt 0, .none, .none] }) := by
    obtain ⟨_, b3, ⟨os, b4, b5⟩, b6⟩ := st
    refine ⟨⟨_, _, up2 hz, .inl rfl⟩, ?_, ⟨os, up2 b4, by rw [List.length_map]; exact b5⟩, fun d hd => ?_⟩
    · rw [List.map_map]; exact up2 b3
    · obtain ⟨c, hc, rfl⟩ := List.mem_map.mp hd
      obtain ⟨⟨o, q1, q2⟩, _⟩ := b6 c hc
      exact ⟨o, up2 q1, q2⟩
  have ets : (((colsOf s1.heap.objs.size (ts.zip as)).map fun c => ((c.1, c.2.1) : Row)).map (·.2)) = ts := by
    rw [List.map_map]
    have := colsOf_snd (ts.zip as) s1.heap.objs.size
    rw [List.map_fst_zip (by omega)] at this
    exact this
  rw [← hsz] at F
  rw [hsz] at F
  refine ⟨s1.heap.objs.size + (ts.zip as).length + 3, _, _, _, H1, by show Value.ref h'.objs.size = _; rw [hsz], I2, turn_Z F (fun h => hne (by rw [← ets, h]; rfl)) (by rw [List.length_map, colsOf_len]; omega), ⟨⟨.none, by rw [← hsz]; exact hen⟩, zs⟩, fun b hb => ?_, by rw [ets]; exact hR⟩
  have hle : s1.heap.objs.size ≤ b := by
    rcases List.mem_cons.mp hb with q | hb
    · rw [q]; exact Nat.le_add_right_of_le (Nat.le_add_right _ _)
    rcases List.mem_cons.mp hb with q | hb
    · rw [q]; exact Nat.le_add_right_of_le (Nat.le_add_right _ _)
    rcases List.mem_cons.mp hb with q | hb
    · rw [q]; exact Nat.le_add_right _ _
    rcases List.mem_cons.mp hb with q | hb
    · rw [q]; exact Nat.le_add_right_of_le (Nat.le_add_right _ _)
    obtain ⟨d, hd, rfl⟩ := List.mem_map.mp hb
    obtain ⟨c, hc, rfl⟩ := List.mem_map.mp hd
    exact (colsOf_mem hc).1
  exact I1.fpOk hle (I1.hok.fresh hle)
end RwZ

set_option Elab.async false
set_option linter.all false
set_option maxRecDepth 100000
set_option maxHeartbeats 4000000
namespace RW
open PySem PySem.Spec PyProof.Rows L2
open Evl (Ex)
section
variable {K : PySem.W.Frag} {te : TE} {env : Env1} {S S1 : List Dat} {B : Hp}
theorem reps_rows : ∀ {rows : List (List Int)} {vs : List V}, Reps K B vs (rows.map fun r => Dat.tup (r.map Dat.int)) → ∃ ts : List Addr, vs = ts.map V.ref ∧ ts.length = rows.length ∧ ∀ (k : Nat) (t : Addr) (r : List Int), ts[k]? = some t → rows[k]? = some r → SqT K B t (r.map V.int)
  | [], _, .nil => ⟨[], rfl, rfl, fun k t r h => by simp at h⟩
  | r :: rows, _, .cons h rr => by
    cases h with
    | tup h1 q1 =>
      obtain ⟨ts, e1, e2, e3⟩ := reps_rows rr
      have := q1.ints
      subst this
      refine ⟨_ :: ts, by rw [e1]; rfl, by simp [e2], fun k t r' a b => ?_⟩
      cases k with
      | zero => simp at a b; subst a b; exact h1
      | succ k => exact e3 k t r' (by simpa using a) (by simpa using b)
def zipZ (rows : List (List Int)) (m : Nat) : List Dat := (List.range m).map fun i => Dat.tup [.int (i : Nat), .tup ((rows.map fun r => r.getD i 0).map Dat.int)]
/-- enumerate(zip(*rows)) -/
theorem it_enumZ {rows : List (List Int)} {m : Nat} (h : Ev K te env S (.d (.tup (rows.map fun r => Dat.tup (r.map Dat.int)))) S1) (hne : rows ≠ []) (h12 : rows.length ≤ 12) (hm : ∀ r ∈ rows, r.length = m) : IterD K (RwZ.iEnumZ K te) env S G0 (zipZ rows m) S1 := fun B H as σ c g R q => h B H as σ c g _ fun v B1 H1 c1 e1 r1 => by
  cases r1 with
  | tup h1 q1 =>
    obtain ⟨ts, rfl, hl, ht⟩ := reps_rows q1
    have sq : ∀ B2 H2 as2 S2, Ex B1 B2 → Ok K B2 H2 as2 S2 → ∀ (k : Nat) (t : Addr) (r : List Int), ts[k]? = some t → rows[k]? = some r → SqT K H2 t (r.map V.int) := fun B2 H2 as2 S2 e c2 k t r a b => Evl.ex_t c2.ex (Evl.ex_t e (ht k t r a b))
    have sq2 : ∀ B2 H2 as2 S2, Ex B1 B2 → Ok K B2 H2 as2 S2 → ∀ (k : Nat) (t : Addr) (xs : List V), ts[k]? = some t → (rows.map fun r => r.map V.int)[k]? = some xs → SqT K H2 t xs := fun B2 H2 as2 S2 e c2 k t xs a b => by
      rw [List.getElem?_map, Option.map_eq_some_iff] at b
      obtain ⟨r, b, rfl⟩ := b
      exact sq B2 H2 as2 S2 e c2 k t r a b
    refine ⟨_, ts, rows.map fun r => r.map V.int, rfl, Evl.ex_t c1.ex h1, fun z => hne (List.length_eq_zero_iff.mp (by rw [← hl, z]; rfl)), by omega, by rw [List.length_map]; exact hl, sq2 B1 H1 as S1 (Evl.Ex.refl _) c1, q _ B1 H1 c1 e1 ⟨fun B2 H2 as2 S2 i e c2 _ hi => ?_, fun B2 H2 as2 S2 i x H3 e c2 _ hi y => ?_, fun B2 H2 as2 S2 e c2 _ => ?_⟩⟩
    · rw [zipZ, List.length_map, List.length_range] at hi
      refine ⟨rows.map fun r => r.map V.int, by rw [List.length_map]; exact hl, sq2 B2 H2 as2 S2 e c2, fun xs hxs => ?_⟩
      obtain ⟨r, hr, rfl⟩ := List.mem_map.mp hxs
      rw [List.length_map, hm r hr]; exact hi
    · rw [zipZ, List.length_map, List.length_range] at hi
      obtain ⟨T, L, col, rfl, hL, hT, hTL, rfl, hcl, hcol⟩ := y
      have ecol : col = (rows.map fun r => r.getD i 0).map V.int := by
        refine List.ext_getElem? fun k => ?_
        by_cases hk : k < rows.length
        · obtain ⟨t, hkt⟩ : ∃ t, ts[k]? = some t := ⟨_, List.getElem?_eq_getElem (by omega)⟩
          have hkr := List.getElem?_eq_getElem hk
          obtain ⟨x, hx1, hx2⟩ := hcol k t _ hkt (sq B2 H2 as2 S2 e c2 k t _ hkt hkr)
          rw [hx2, List.getElem?_map, List.getElem?_map, hkr]
          rw [List.getElem?_map, Option.map_eq_some_iff] at hx1
          obtain ⟨j, hj, rfl⟩ := hx1
          show some (V.int j) = some (V.int (rows[k].getD i 0))
          rw [List.getD_eq_getElem?_getD, hj]; rfl
        · rw [List.getElem?_eq_none (by omega), List.getElem?_eq_none (by rw [List.length_map, List.length_map]; omega)]
      subst ecol
      have c3 := c2.new (o := .tup ((rows.map fun r => r.getD i 0).map V.int)) hL
      have hT' : (upd H2 L (.tup ((rows.map fun r => r.getD i 0).map V.int))) T = none := by rw [upd_ne hTL]; exact hT
      have c4 := c3.new (o := .tup [.int (i : Nat), .ref L]) hT'
      refine ⟨_, .tup [.int (i : Nat), .tup ((rows.map fun r => r.getD i 0).map Dat.int)], c4, (Evo.new c2 hL).trans (Evo.new c3 hT'), by rw [zipZ, List.getElem?_map, List.getElem?_range hi]; rfl, ?_⟩
      refine .tup (Evl.st_of upd_same) (.cons (.int _) (.cons (.tup (Evl.st_of (xs := (rows.map fun r => r.getD i 0).map V.int) ?_) (reps_ints _)) .nil))
      rw [upd_ne (Ne.symm hTL)]; exact upd_same
    · rw [zipZ, List.length_map, List.length_range]
      refine ⟨rows.map fun r => r.map V.int, by rw [List.length_map]; exact hl, sq2 B2 H2 as2 S2 e c2, fun xs hxs => ?_⟩
      obtain ⟨r, hr, rfl⟩ := List.mem_map.mp hxs
      rw [List.length_map, hm r hr]
end
end RW

set_option Elab.async false
set_option linter.all false
set_option maxRecDepth 100000
set_option maxHeartbeats 4000000
namespace RwZ
open PySem PySem.Spec PyProof.Rows L2
/-- xs.count(y), numbers -/
def rCountI (K : PySem.W.Frag) : V → List V → Hp → VK → Prop := fun x xs H Q => ∃ (a : Addr) (ns : List Int) (y : Int), x = .ref a ∧ xs = [.int y] ∧ SqL K H a (ns.map V.int) ∧ Q (.int (ns.count y : Nat)) H
theorem countU {y : Int} : ∀ {ns : List Int} {us : List Value}, Vals (ns.map V.int) us → List.countP (eqU (.int y)) us = ns.count y
  | [], _, .nil => rfl
  | n :: ns, _, .cons (b := u) r rr => by
    rw [List.countP_cons, countU rr, List.count_cons, eqU_of r rfl]
    rfl
theorem flat_ints : ∀ ns : List Int, (ns.map V.int).all flatV = true
  | [] => rfl
  | n :: ns => by rw [List.map_cons, List.all_cons, flat_ints ns]; rfl
theorem mt_countI {X : Cx} : MtR X "list.count" (rCountI X.K) := by
  intro pins s σ H x xs v us Q I rx rxs h
  obtain ⟨a, ns, y, rfl, rfl, hs, q⟩ := h
  cases rx
  cases rxs with
  | cons r rr =>
    cases rr
    obtain ⟨its, rv, ⟨o, n, h1, h2, h3, h4⟩, _⟩ := I.list hs
    obtain ⟨cls, dd, data, sl⟩ := o
    simp only at h2 h3 h4
    subst h2 h3 h4
    refine call_meets F.slot_list_count ⟨_, h1, rfl⟩ F.entry_list_count (F.args_list_count_2 _ _) (SeqAt.list_countAt a its.toArray n none sl _ (eqU (.int y))) ⟨h1, fun u hu => mem_eqAt r rfl rv (flat_ints ns) u (by simpa using hu), ?_⟩
    refine ⟨.int (ns.count y : Nat), H, I.tok _, ⟨s.toks, ?_⟩, q⟩
    rw [show its.toArray.toList = its from rfl, countU rv]
end RwZ
namespace RW
open PySem PySem.Spec PyProof.Rows L2
section
variable {K : PySem.W.Frag} {to te ta tb : TE} {env : Env1} {S S1 S2 : List Dat} {x : Sl} {ns : List Int} {y : Int}
/-- xs.count(y) -/
theorem ev_countI (ho : Ev K to env S x S1) (hx : SeqL S1 x (ns.map Dat.int)) (h : Ev K te env S1 (.d (.int y)) S1) : Ev K (tBM K "list" (RwZ.rCountI K) to (tCons te tNil)) env S (.d (.int (ns.count y : Nat))) S1 := fun B H as σ c g Q q =>
  ho B H as σ c g _ fun v B1 H1 c1 e1 r1 => by
    obtain ⟨a, ws, rfl, hw, _⟩ := hx.read c1 r1
    refine ⟨.inl ⟨rfl, ws, Evl.sq_of hw⟩, h B1 H1 as σ c1 (g.mono e1.ex) _ fun w B2 H2 c2 e2 r2 => ?_⟩
    cases r2
    obtain ⟨a', vs, e3, hv, rv⟩ := hx.read c2 (r1.mono e2.ex)
    cases e3
    have := rv.ints
    subst this
    exact ⟨_, ns, y, rfl, rfl, Evl.sq_of hv, q _ B2 H2 c2 (e1.trans e2) (.int _)⟩
/-- xs.index(y), y among them -/
theorem ev_indexI (ho : Ev K to env S x S1) (hx : SeqL S1 x (ns.map Dat.int)) (h : Ev K te env S1 (.d (.int y)) S1) (hy : y ∈ ns) : Ev K (tBM K "list" (rIndex K) to (tCons te tNil)) env S (.d (.int (ns.idxOf y : Nat))) S1 := fun B H as σ c g Q q =>
  ho B H as σ c g _ fun v B1 H1 c1 e1 r1 => by
    obtain ⟨a, ws, rfl, hw, _⟩ := hx.read c1 r1
    refine ⟨.inl ⟨rfl, ws, Evl.sq_of hw⟩, h B1 H1 as σ c1 (g.mono e1.ex) _ fun w B2 H2 c2 e2 r2 => ?_⟩
    cases r2
    obtain ⟨a', vs, e3, hv, rv⟩ := hx.read c2 (r1.mono e2.ex)
    cases e3
    have := rv.ints
    subst this
    have hl := List.idxOf_lt_length_of_mem hy
    refine ⟨_, ns.map V.int, .int y, ns.idxOf y, .int y, rfl, rfl, Evl.sq_of hv, rfl, RwZ.flat_ints ns, ?_, by simp [eqV], fun m z' hm hz => ?_, q _ B2 H2 c2 (e1.trans e2) (.int _)⟩
    · rw [List.getElem?_map, List.getElem?_eq_getElem hl, List.getElem_idxOf]; rfl
    · rw [List.getElem?_map, Option.map_eq_some_iff] at hz
      obtain ⟨i, hi, rfl⟩ := hz
      have hml : m < ns.length := by omega
      have hne : i ≠ y := by
        rw [List.getElem?_eq_getElem hml] at hi
        have := List.not_of_lt_findIdx (p := (· == y)) (xs := ns) hm
        simp only [Option.some.injEq] at hi
        rw [hi] at this
        simpa using this
      simp [eqV, hne]
/-- gcd(a, b) -/
theorem cd_gcd {i j : Int} : CallD K rGcd [.d (.int i), .d (.int j)] S (.int ((Nat.gcd i.natAbs j.natAbs : Nat) : Int)) S := fun B H as vs c r Q q => by
  cases r with
  | cons r1 rr =>
    cases rr with
    | cons r2 rr =>
      cases rr; cases r1; cases r2
      exact ⟨i, j, rfl, q _ B H c Evo.refl (.int _)⟩
/-- x.bit_length() -/
theorem ev_bits {i : Int} (h : Ev K to env S (.d (.int i)) S1) : Ev K (tBits to) env S (.d (.int (Builtin.Int.intBits i))) S1 := fun B H as σ c g Q q =>
  h B H as σ c g _ fun v B1 H1 c1 e1 r1 => by
    cases r1
    exact ⟨i, rfl, q _ B1 H1 c1 e1 (.int _)⟩
/-- a >> b -/
theorem o_shr {i : Int} {k : Nat} : Op2 K (fun x y H Q => ∃ (i : Int) (k : Nat), x = .int i ∧ y = .int (k : Int) ∧ Q (.int (i / 2 ^ k)) H) (.d (.int i)) (.d (.int k)) S (.int (i / 2 ^ k)) := fun B H as v w c r1 r2 Q q => by
  cases r1; cases r2
  exact ⟨i, k, rfl, rfl, q _ B H c Evo.refl (.int _)⟩
end
end RW

set_option Elab.async false
set_option linter.all false
set_option maxRecDepth 100000
set_option maxHeartbeats 4000000
namespace RW
open PySem PySem.Spec PyProof.Rows L2
open Evl (Ex)
theorem Reps.del {K : PySem.W.Frag} {B : Hp} : ∀ {vs : List V} {ds : List Dat} (j : Nat), Reps K B vs ds → Reps K B (vs.eraseIdx j) (ds.eraseIdx j)
  | _, _, _, .nil => .nil
  | _, _, 0, .cons h r => r
  | _, _, j + 1, .cons h r => .cons h (Reps.del j r)
section
variable {K : PySem.W.Frag} {n : Nat} {to ti : TE} {env : Env1} {S S1 S2 : List Dat} {ds : List Dat} {P : Post} {u : TS} {k j : Nat} {i : Int}
/-- del xs[i] -/
theorem sp_delL (ho : Ev K to env S (.c k) S1) (hi : Ev K ti env S1 (.d (.int i)) S2) (hs : S2[k]? = some (.lst ds)) (hb : -(2 ^ 63) ≤ i ∧ i < 2 ^ 63) (hj : seqIndex? i ds.length = some j) (q : SP K n u env (S2.set k (.lst (ds.eraseIdx j))) P) :
    SP K n (tSeq (tDelL to ti) u) env S P := fun B0 H0 as0 Bk B H as σ hl f c g D m =>
  ho B H as σ c g _ fun w B1 H1 c1 e1 r1 => hi B1 H1 as σ c1 (g.mono e1.ex) _ fun w2 B2 H2 c2 e2 r2 => by
    obtain ⟨p, hp, rfl⟩ := r1
    cases r2
    obtain ⟨vs, hv, rv⟩ := (c2.cells k p _ hp hs).2.lst
    have e03 := (e1.trans e2).trans (Evo.setc (o := .lst (vs.eraseIdx j)) (List.mem_of_getElem? hp) hv (fun _ z => nomatch z))
    exact ⟨p, vs, i, j, rfl, rfl, hv, hb.1, hb.2, by rw [rv.length]; exact hj, q B0 H0 as0 Bk B2 _ as σ hl (f.step e03) (c2.setc hp (show CellO K B2 (.lst _) (.lst _) from rv.del j)) (g.mono e03.ex) D m⟩
end
section
variable {K : PySem.W.Frag} {n : Nat} {ta tb tc td te : TE} {env : Env1} {S : List Dat} {x y : Sl} {d : Dat} {ds es : List Dat} {P : Post} {u : TS} {i j k l k1 k2 : Nat} {B B0 H H0 : Hp} {as as0 : List Addr} {a : Addr} {o : HO}
theorem evo_know (e : Evo B0 H0 as0 B H) (hb : B a = none) (h0 : Nn H0 a) : Evo B0 H0 as0 (upd B a o) H :=
  ⟨e.ex.trans (Evl.Ex.new hb), e.fr, fun b o hb' nt => by rw [upd_ne (by rintro rfl; exact h0.no hb' nt)]; exact e.gr b o hb' nt, e.tp, e.pr⟩
/-- a, b, c, d = ([..], [..], e, f) -/
theorem sp_quadCC (h : EvN K ta env S ds S) (hv : EvN K tb env S es S) (hc : Ev K tc env S x S) (hd : Ev K td env S y S) (q : SP K n u ((((env.set i (some (.c S.length))).set j (some (.c (S.length + 1)))).set k (some x)).set l (some y)) (S ++ [.lst ds] ++ [.lst es]) P) :
    SP K n (tSeq (tAsg (tTup (tCons ta (tCons tb (tCons tc (tCons td tNil))))) (gTup K 4 (gCons (gName i) (gCons (gName j) (gCons (gName k) (gCons (gName l) gNil)))))) u) env S P := fun B0 H0 as0 Bk B H as σ hl f c g D m =>
  h B H as σ c g _ fun p B1 H1 vs c1 e1 hp hb h1 r1 => hv B1 H1 as σ c1 (g.mono e1.ex) _ fun p2 B2 H2 ws c2 e2 hp2 hb2 h2 r2 => hc B2 H2 as σ c2 (g.mono (e1.trans e2).ex) _ fun w3 B3 H3 c3 e3 r3 => hd B3 H3 as σ c3 (g.mono ((e1.trans e2).trans e3).ex) _ fun w4 B4 H4 c4 e4 r4 => ⟨by show 4 ≤ sizeLine; decide, fun t ht => by
    have hpa : p ∉ as := hp.1
    have hpa2 : p2 ∉ as := hp2.1
    have hpp : p ≠ p2 := by rintro rfl; exact hp2.2.no h1 (fun _ z => nomatch z)
    obtain ⟨a1, a2⟩ := ((e2.trans e3).trans e4).kept hpa h1 hb
    obtain ⟨b1, b2⟩ := (e3.trans e4).kept hpa2 h2 hb2
    have c5 := c4.new (o := .tup [.ref p, .ref p2, w3, w4]) ht
    have e5 := Evo.new (o := .tup [.ref p, .ref p2, w3, w4]) c4 ht
    have e05 := (((e1.trans e2).trans e3).trans e4).trans e5
    have npt : p ≠ t := by rintro rfl; rw [ht] at a1; cases a1
    have npt2 : p2 ≠ t := by rintro rfl; rw [ht] at b1; cases b1
    refine ⟨t, _, rfl, Evl.st_of upd_same, rfl, _, _, rfl, _, _, rfl, _, _, rfl, _, _, rfl, rfl, ?_⟩
    have c6 := c5.push (p := p) (by rw [upd_ne npt]; exact a2) hpa (.ofL (by rw [upd_ne npt]; exact a1) (r1.mono (((e2.trans e3).trans e4).trans e5).ex))
    have c7 := c6.push (p := p2) (by rw [upd_ne npt2]; exact b2) (by simp [hpa2, hpp.symm]) (.ofL (by rw [upd_ne npt2]; exact b1) (r2.mono ((e3.trans e4).trans e5).ex))
    have f6 := (f.step e05).push (f.evo.oldN hp.2)
    refine q B0 H0 as0 Bk _ _ (as ++ [p] ++ [p2]) _ hl (f6.push (f.evo.oldN (e1.oldN hp2.2))) c7 ((((((g.mono e05.ex).grow).grow.set (s := .c S.length) i ?_).set (s := .c (S.length + 1)) j ?_).set k ((r3.mono (e4.trans e5).ex).grow.grow)).set l ((r4.mono e5.ex).grow.grow)) D m
    · exact ⟨p, by rw [← c4.len]; simp, rfl⟩
    · exact ⟨p2, by rw [← c4.len]; simp, rfl⟩⟩
/-- return (xs, ys, e), two lists that were made here and changed -/
theorem sp_retCC (hi : env[i]? = some (some (.c k1))) (hj : env[j]? = some (some (.c k2))) (he : Ev K te env S (.d d) S) (hs1 : S[k1]? = some (.lst ds)) (hs2 : S[k2]? = some (.lst es)) (hne : k1 ≠ k2) (h1 : n ≤ k1) (h2 : n ≤ k2) (q : P.rt (.tup [.lst ds, .lst es, d]) (S.take n)) :
    SP K n (tRet (tTup (tCons (tVar i) (tCons (tVar j) (tCons te tNil))))) env S P := fun B0 H0 as0 Bk B H as σ hl f c g D m => by
  obtain ⟨v1, g1, a, ha, rfl⟩ := g.2 i _ hi
  obtain ⟨v2, g2, b, hb, rfl⟩ := g.2 j _ hj
  refine ⟨.ref a, g1, .ref b, g2, he B H as σ c g _ fun w B1 H1 c1 e1 r1 => ⟨by show 3 ≤ sizeLine; decide, fun t ht => ?_⟩⟩
  obtain ⟨ka, qa⟩ := c1.cells k1 a _ ha hs1
  obtain ⟨vs, va, ra⟩ := qa.lst
  obtain ⟨kb, qb⟩ := c1.cells k2 b _ hb hs2
  obtain ⟨ws, vb, rb⟩ := qb.lst
  have nat_ : a ≠ t := by rintro rfl; rw [ht] at va; cases va
  have nbt : b ≠ t := by rintro rfl; rw [ht] at vb; cases vb
  have nab : a ≠ b := fun z => hne (by
    subst z
    exact (List.getElem?_inj (List.getElem?_eq_some_iff.mp ha).1 c1.nd).mp (ha.trans hb.symm))
  have c2 := c1.new (o := .tup [.ref a, .ref b, w]) ht
  have e2 := Evo.new (o := .tup [.ref a, .ref b, w]) c1 ht
  have f2 := (f.step e1).step e2
  have c3 := c2.upto as0.length
  rw [f2.base] at c3
  subst hl
  have hin : ∀ {k : Nat} {a : Addr}, as[k]? = some a → as0.length ≤ k → a ∈ as.drop as0.length := fun {k a} h hk => by
    refine List.mem_of_getElem? (i := k - as0.length) ?_
    rw [List.getElem?_drop, show as0.length + (k - as0.length) = k by omega]
    exact h
  have hout : ∀ {a : Addr}, a ∈ as.drop as0.length → a ∉ as0 := fun {a} hd hm => by
    have nd := c1.nd
    rw [← List.take_append_drop as0.length as, f2.base] at nd
    exact (List.nodup_append.mp nd).2.2 a hm a hd rfl
  have da := hin ha h1
  have db := hin hb h2
  have ta' : upd B1 t (.tup [.ref a, .ref b, w]) a = none := by rw [upd_ne nat_]; exact ka
  have ha' : upd H1 t (.tup [.ref a, .ref b, w]) a = some (.lst vs) := by rw [upd_ne nat_]; exact va
  have c4 := c3.know ha' ta' (hout da)
  have tb' : upd (upd B1 t (.tup [.ref a, .ref b, w])) a (.lst vs) b = none := by rw [upd_ne nab.symm, upd_ne nbt]; exact kb
  have hb' : upd H1 t (.tup [.ref a, .ref b, w]) b = some (.lst ws) := by rw [upd_ne nbt]; exact vb
  have c5 := c4.know hb' tb' (hout db)
  have ev := evo_know (o := .lst ws) (evo_know (o := .lst vs) f2.evo ta' (f2.loc a da)) tb' (f2.loc b db)
  have x1 : Ex B1 (upd B1 t (.tup [.ref a, .ref b, w])) := e2.ex
  have x2 := x1.trans ((Evl.Ex.new (o := .lst vs) ta').trans (Evl.Ex.new (o := .lst ws) tb'))
  have ht2 : upd (upd (upd B1 t (.tup [.ref a, .ref b, w])) a (.lst vs)) b (.lst ws) t = some (.tup [.ref a, .ref b, w]) := by rw [upd_ne nbt.symm, upd_ne nat_.symm, upd_same]
  have ha2 : upd (upd (upd B1 t (.tup [.ref a, .ref b, w])) a (.lst vs)) b (.lst ws) a = some (.lst vs) := by rw [upd_ne nab, upd_same]
  exact m.rt (.ref t) _ _ _ _ c5 ev (.tup (Evl.st_of ht2) (.cons (.lst ha2 (ra.mono x2)) (.cons (.lst upd_same (rb.mono x2)) (.cons (r1.mono x2) .nil)))) q
end
end RW

set_option Elab.async false
set_option linter.all false
set_option maxRecDepth 100000
set_option maxHeartbeats 4000000
namespace RW
open PySem PySem.Spec PyProof.Rows L2
open Evl (Ex)
/-! ### objects that hold lists which change -/
section
variable {K : PySem.W.Frag} {n : Nat} {te ta tb tc to ti tv : TE} {tA : TA} {env env' : Env1} {S S1 S2 S3 : List Dat} {x y z : Sl} {d e : Dat} {ds es ds' : List Dat} {P P' : Post} {t u : TS}
  {B B0 B1 B2 B' Bk H H0 H1 H2 H' : Hp} {as as0 as1 : List Addr} {D : Ends} {σ : L2.St} {i j k : Nat} {p : Addr} {E : XK}
/-- the changed things that env names lie ahead of m -/
def EnvLt (m : Nat) : Env1 → Prop
  | [] => True
  | none :: e => EnvLt m e
  | some (.d _) :: e => EnvLt m e
  | some (.c k) :: e => k < m ∧ EnvLt m e
theorem EnvLt.get {m : Nat} : ∀ {env : Env1} {i k : Nat}, EnvLt m env → env[i]? = some (some (.c k)) → k < m
  | [], _, _, _, h => by simp at h
  | o :: e, 0, k, h, q => by
    simp at q; subst q
    exact h.1
  | none :: e, i + 1, k, h, q => EnvLt.get (env := e) (i := i) h (by simpa using q)
  | some (.d _) :: e, i + 1, k, h, q => EnvLt.get (env := e) (i := i) h (by simpa using q)
  | some (.c _) :: e, i + 1, k, h, q => EnvLt.get (env := e) (i := i) h.2 (by simpa using q)
/-- the last changed thing, a list that was made here, is left as it is from now on -/
theorem sp_freeze (hn : n ≤ S.length) (hi : env[i]? = some (some (.c S.length))) (hl : EnvLt S.length (env.set i none)) (q : SP K n t (env.set i (some (.d (.lst ds)))) S P) : SP K n t env (S ++ [.lst ds]) P := fun B0 H0 as0 Bk B H as σ hl0 f c g D m => by
  have hk : (S ++ [Dat.lst ds])[S.length]? = some (.lst ds) := by simp
  have hlen : as.length = S.length + 1 := by have := c.len; simpa using this
  obtain ⟨a, ha⟩ : ∃ a, as[S.length]? = some a := ⟨_, List.getElem?_eq_getElem (by omega)⟩
  obtain ⟨hb, q0⟩ := c.cells S.length a _ ha hk
  obtain ⟨vs, hv, rv⟩ := q0.lst
  have c1 := c.upto S.length
  rw [show (S ++ [Dat.lst ds]).take S.length = S from List.take_left ..] at c1
  have has : as = as.take S.length ++ [a] := by
    have h1 := List.take_append_drop S.length as
    have h2 : as.drop S.length = [a] := by
      apply List.ext_getElem?
      intro m
      rw [List.getElem?_drop]
      cases m with
      | zero => rw [Nat.add_zero, ha]; rfl
      | succ m => rw [List.getElem?_eq_none (by omega)]; simp
    rw [h2] at h1
    exact h1.symm
  have hna : a ∉ as.take S.length := fun hm => by
    have nd := c.nd
    rw [has] at nd
    exact (List.nodup_append.mp nd).2.2 a hm a (List.mem_singleton.mpr rfl) rfl
  have hd : a ∈ as.drop as0.length := by
    refine List.mem_of_getElem? (i := S.length - as0.length) ?_
    rw [List.getElem?_drop, show as0.length + (S.length - as0.length) = S.length by omega]
    exact ha
  have h0 := f.loc a hd
  have f1 : Fr B0 H0 as0 Bk (upd B a (.lst vs)) H (as.take S.length) := ⟨f.kn.trans (Ex.new hb), by rw [List.take_take, Nat.min_eq_left (by omega)]; exact f.base, ⟨f.evo.ex.trans (Ex.new hb), f.evo.fr, fun b o hb' nt => by rw [upd_ne (by rintro rfl; exact h0.no hb' nt)]; exact f.evo.gr b o hb' nt, f.evo.tp, f.evo.pr⟩, fun b hb2 => f.loc b (by
      rw [List.drop_take] at hb2
      exact List.mem_of_mem_take hb2)⟩
  have c2 := c1.know hv hb hna
  refine q B0 H0 as0 Bk _ H _ σ hl0 f1 c2 ⟨by rw [List.length_set]; exact g.1, fun r s hr => ?_⟩ D m
  by_cases e : i = r
  · subst e
    rw [List.getElem?_set_self (List.getElem?_eq_some_iff.mp hi).1] at hr
    cases hr
    obtain ⟨v, h1, a2, h2, rfl⟩ := g.2 i _ hi
    rw [ha] at h2; cases h2
    exact ⟨_, h1, .lst upd_same (rv.mono (Ex.new hb))⟩
  · have hr2 : (env.set i none)[r]? = some (some s) := by rw [List.getElem?_set_ne e] at hr ⊢; exact hr
    rw [List.getElem?_set_ne e] at hr
    obtain ⟨v, h1, h2⟩ := g.2 r s hr
    cases s with
    | d x => exact ⟨v, h1, Rep.mono (Ex.new hb) h2⟩
    | c k =>
      obtain ⟨b, h3, h4⟩ := h2
      exact ⟨v, h1, b, by rw [List.getElem?_take_of_lt (hl.get hr2)]; exact h3, h4⟩
/-- self.f = a new list, which will be changed -/
theorem sp_fldL {C : Addr} {fs : List (Str × Dat)} {f : Str} (h : EvN K tv env S ds S1) (hi : env[i]? = some (some (.c k))) (hs : S1[k]? = some (.ins C fs)) (cl : Cls K C) (na : NoAttr K C f) (hl : fs.length < 1000)
    (q : ∀ p : Addr, SP K n u env (S1.set k (.ins C (putFD f (.adr p) fs)) ++ [.lsa p ds]) P) : SP K n (tSeq (sFld K (tVar i) tv f) u) env S P := fun B0 H0 as0 Bk B H as σ hl0 f0 c g D m =>
  h B H as σ c g _ fun a B1 H1 ws c1 e1 hp hb h1 r1 => by
    obtain ⟨v, hv1, x, hx, rfl⟩ := g.2 i _ hi
    obtain ⟨dx, vs, hv, rv⟩ := (c1.cells k x _ hx hs).2.ins
    have hkl : k < S1.length := (List.getElem?_eq_some_iff.mp hs).1
    have hne : a ≠ x := fun z => hp.1 (z ▸ List.mem_of_getElem? hx)
    have c2 := c1.push (s0 := .lsa a ds) hb hp.1 ⟨_, h1, r1⟩ (fun _ _ _ _ _ _ z => nomatch z) (fun P z => Option.some.inj z)
    have hx2 : (as ++ [a])[k]? = some x := by rw [List.getElem?_append_left (List.getElem?_eq_some_iff.mp hx).1]; exact hx
    have hs2 : (S1 ++ [Dat.lsa a ds])[k]? = some (.ins C fs) := by rw [List.getElem?_append_left hkl]; exact hs
    have f2 : Fr B0 H0 as0 Bk B1 H1 (as ++ [a]) := (f0.step e1).push (f0.evo.oldN hp.2)
    have e3 : Evo B1 H1 (as ++ [a]) B1 (upd H1 x (.ins C dx (putF f (.ref a) vs))) := Evo.setc (List.mem_of_getElem? hx2) hv (fun _ z => nomatch z)
    have c3 := c2.setc (o := .ins C dx (putF f (.ref a) vs)) hx2 (show CellO K B1 (.ins C dx _) (.ins C (putFD f (.adr a) fs)) from ⟨rfl, RepF.put (.adr a) rv⟩) (c2.lkput hx2 hs2 hv (.adr a))
    rw [List.set_append_left _ _ hkl] at c3
    exact ⟨.ref x, hv1, x, C, dx, vs, rfl, hv, cl, na, by rw [rv.length]; exact hl, q a B0 H0 as0 Bk B1 _ _ σ hl0 (f2.step e3) c3 ((g.mono e1.ex).grow) D m⟩
theorem sp_fldL1 {C : Addr} {fs : List (Str × Dat)} {f : Str} (h : EvN K tv env S ds S1) (hi : env[i]? = some (some (.c k))) (hs : S1[k]? = some (.ins C fs)) (cl : Cls K C) (na : NoAttr K C f) (hl : fs.length < 1000)
    (q : ∀ p : Addr, P.nx env (S1.set k (.ins C (putFD f (.adr p) fs)) ++ [.lsa p ds])) : SP K n (sFld K (tVar i) tv f) env S P := fun B0 H0 as0 Bk B H as σ hl0 f0 c g D m =>
  h B H as σ c g _ fun a B1 H1 ws c1 e1 hp hb h1 r1 => by
    obtain ⟨v, hv1, x, hx, rfl⟩ := g.2 i _ hi
    obtain ⟨dx, vs, hv, rv⟩ := (c1.cells k x _ hx hs).2.ins
    have hkl : k < S1.length := (List.getElem?_eq_some_iff.mp hs).1
    have hne : a ≠ x := fun z => hp.1 (z ▸ List.mem_of_getElem? hx)
    have c2 := c1.push (s0 := .lsa a ds) hb hp.1 ⟨_, h1, r1⟩ (fun _ _ _ _ _ _ z => nomatch z) (fun P z => Option.some.inj z)
    have hx2 : (as ++ [a])[k]? = some x := by rw [List.getElem?_append_left (List.getElem?_eq_some_iff.mp hx).1]; exact hx
    have hs2 : (S1 ++ [Dat.lsa a ds])[k]? = some (.ins C fs) := by rw [List.getElem?_append_left hkl]; exact hs
    have f2 : Fr B0 H0 as0 Bk B1 H1 (as ++ [a]) := (f0.step e1).push (f0.evo.oldN hp.2)
    have e3 : Evo B1 H1 (as ++ [a]) B1 (upd H1 x (.ins C dx (putF f (.ref a) vs))) := Evo.setc (List.mem_of_getElem? hx2) hv (fun _ z => nomatch z)
    have c3 := c2.setc (o := .ins C dx (putF f (.ref a) vs)) hx2 (show CellO K B1 (.ins C dx _) (.ins C (putFD f (.adr a) fs)) from ⟨rfl, RepF.put (.adr a) rv⟩) (c2.lkput hx2 hs2 hv (.adr a))
    rw [List.set_append_left _ _ hkl] at c3
    exact ⟨.ref x, hv1, x, C, dx, vs, rfl, hv, cl, na, by rw [rv.length]; exact hl, m.nx _ _ B1 _ _ σ (f2.step e3) c3 ((g.mono e1.ex).grow) (q a)⟩
/-- what stands at a known address, the j-th changed thing -/
theorem ev_la (h : Ev K te env S (.d (.adr p)) S1) (hs : S1[j]? = some d) (hd : adrOf d = some p) : Ev K te env S (.c j) S1 := fun B H as σ c g Q q =>
  h B H as σ c g _ fun v B1 H1 c1 e1 r1 => q v B1 H1 c1 e1 (by
    cases r1
    exact ⟨p, c1.tb j d p hs hd, rfl⟩)
theorem Ok.forget (c : Ok K B H as S) (hs : S[j]? = some (.lsa p ds)) : Ok K B H as (S.set j (.lst ds)) where
  ex := c.ex
  len := by rw [List.length_set]; exact c.len
  cells := fun k a s h1 h2 => by
    by_cases e : j = k
    · subst e
      rw [List.getElem?_set_self (List.getElem?_eq_some_iff.mp hs).1] at h2
      cases h2
      obtain ⟨q1, q2⟩ := c.cells j a _ h1 hs
      obtain ⟨vs, hv, rv⟩ := q2.lsa
      exact ⟨q1, _, hv, rv⟩
    · rw [List.getElem?_set_ne e] at h2
      exact c.cells k a s h1 h2
  nd := c.nd
  lk := fun k a s o h1 h2 h3 => by
    by_cases e : j = k
    · subst e
      rw [List.getElem?_set_self (List.getElem?_eq_some_iff.mp hs).1] at h2
      cases h2
      exact fun _ _ _ _ z => nomatch z
    · rw [List.getElem?_set_ne e] at h2
      exact c.lk k a s o h1 h2 h3
  ntb := c.ntb
  tb := fun k d P h hd => by
    by_cases e : j = k
    · subst e
      rw [List.getElem?_set_self (List.getElem?_eq_some_iff.mp hs).1] at h
      cases h
      cases hd
    · rw [List.getElem?_set_ne e] at h
      exact c.tb k d P h hd
theorem Ok.recall (c : Ok K B H as S) (hs : S[j]? = some (.lst ds)) (hp : as[j]? = some p) : Ok K B H as (S.set j (.lsa p ds)) where
  ex := c.ex
  len := by rw [List.length_set]; exact c.len
  cells := fun k a s h1 h2 => by
    by_cases e : j = k
    · subst e
      rw [List.getElem?_set_self (List.getElem?_eq_some_iff.mp hs).1] at h2
      cases h2
      obtain ⟨q1, q2⟩ := c.cells j a _ h1 hs
      obtain ⟨vs, hv, rv⟩ := q2.lst
      exact ⟨q1, _, hv, rv⟩
    · rw [List.getElem?_set_ne e] at h2
      exact c.cells k a s h1 h2
  nd := c.nd
  lk := fun k a s o h1 h2 h3 => by
    by_cases e : j = k
    · subst e
      rw [List.getElem?_set_self (List.getElem?_eq_some_iff.mp hs).1] at h2
      cases h2
      exact fun _ _ _ _ z => nomatch z
    · rw [List.getElem?_set_ne e] at h2
      exact c.lk k a s o h1 h2 h3
  ntb := c.ntb
  tb := fun k d P h hd => by
    by_cases e : j = k
    · subst e
      rw [List.getElem?_set_self (List.getElem?_eq_some_iff.mp hs).1] at h
      cases h
      cases hd
      exact hp
    · rw [List.getElem?_set_ne e] at h
      exact c.tb k d P h hd
theorem set_back {S : List Dat} {d e : Dat} (hs : S[j]? = some d) : (S.set j e).set j d = S := by
  rw [List.set_set]
  obtain ⟨hl, q⟩ := List.getElem?_eq_some_iff.mp hs
  rw [← q]; exact List.set_getElem_self hl
/-- what holds of a list that is changed, where its address is known -/
theorem ev_forget (hs : S[j]? = some (.lsa p ds)) (h : Ev K te env (S.set j (.lst ds)) x S1) (hj : S1[j]? = some (.lst ds')) : Ev K te env S x (S1.set j (.lsa p ds')) := fun B H as σ c g Q q =>
  h B H as σ (c.forget hs) g _ fun v B1 H1 c1 e1 r1 => q v B1 H1 (c1.recall hj (c.tb j _ p hs rfl)) e1 r1
theorem sp_forget (hj : j < n) (hs : S[j]? = some (.lsa p ds)) (h : SP K n t env (S.set j (.lst ds)) { nx := fun env' T => ∃ ds', T[j]? = some (.lst ds') ∧ P.nx env' (T.set j (.lsa p ds')), rt := fun r T => ∃ ds', T[j]? = some (.lst ds') ∧ P.rt r (T.set j (.lsa p ds')), bk := fun env' T => ∃ ds', T[j]? = some (.lst ds') ∧ P.bk env' (T.set j (.lsa p ds')), ct := fun env' T => ∃ ds', T[j]? = some (.lst ds') ∧ P.ct env' (T.set j (.lsa p ds')) }) :
    SP K n t env S P := fun B0 H0 as0 Bk B H as σ hl0 f c g D m => by
  have hp : as[j]? = some p := c.tb j _ p hs rfl
  have h0 : as0[j]? = some p := by
    rw [← f.base, List.getElem?_take_of_lt (by omega)]; exact hp
  have at' : ∀ {as' : List Addr} {B' H'}, Fr B0 H0 as0 Bk B' H' as' → as'[j]? = some p := fun {as' B' H'} f' => by
    have := f'.base
    rw [← this, List.getElem?_take_of_lt (by omega)] at h0
    exact h0
  exact h B0 H0 as0 Bk B H as σ hl0 f (c.forget hs) g D ⟨fun env' T B' H' as' σ' f' c' g' ⟨ds', h1, h2⟩ => m.nx env' _ B' H' as' σ' f' (c'.recall h1 (at' f')) g' h2, fun v r T B' H' c' e' r1 ⟨ds', h1, h2⟩ => m.rt v r _ B' H' (c'.recall h1 h0) e' r1 h2,
    fun env' T B' H' as' σ' f' c' g' ⟨ds', h1, h2⟩ => m.bk env' _ B' H' as' σ' f' (c'.recall h1 (at' f')) g' h2, fun env' T B' H' as' σ' f' c' g' ⟨ds', h1, h2⟩ => m.ct env' _ B' H' as' σ' f' (c'.recall h1 (at' f')) g' h2, trivial⟩
/-! ### a def that hands new changed things to its caller -/
def SpC (K : PySem.W.Frag) (G : List Sl → List Dat → (Sl → List Dat → Prop) → Prop) : Sp := fun vs H Q _ => ∃ B as S ss post, Ok K B H as S ∧ RepSs K B as vs ss ∧ G ss S post ∧
  ∀ v r B' H' as' S', as'.take as.length = as → (∀ a ∈ as'.drop as.length, Nn H a) → Ok K B' H' as' S' → Evo B H as B' H' → RepS K B' as' v r → post r S' → Q v H'
theorem spc_len {G : List Sl → List Dat → (Sl → List Dat → Prop) → Prop} {k : Nat} (h : ∀ ss S post, G ss S post → ss.length = k) : ∀ vs H Q E, SpC K G vs H Q E → vs.length = k := fun vs H Q E q => by
  obtain ⟨B, as, S, ss, post, c, rs, g, _⟩ := q
  rw [rs.length]
  exact h ss S post g
def SPR (K : PySem.W.Frag) (n : Nat) (ts : TS) (env : Env1) (S : List Dat) (post : Sl → List Dat → Prop) : Prop :=
  ∀ B0 H0 as0 Bk B H as σ, as0.length = n → Fr B0 H0 as0 Bk B H as → Ok K B H as S → EnvR K B as σ env → ∀ D : Ends, (∀ v r B' H' as' S', Fr B0 H0 as0 Bk B' H' as' → Ok K B' H' as' S' → RepS K B' as' v r → post r S' → D.rt v H') →
    (∀ σ' B' H' as' S', Fr B0 H0 as0 Bk B' H' as' → Ok K B' H' as' S' → post (.d .non) S' → D.nx σ' H') → ts D σ H
theorem spr_seq {post : Sl → List Dat → Prop} {nx : Env1 → List Dat → Prop} (h : SP K n t env S { nx := nx }) (k : ∀ env' S', nx env' S' → SPR K n u env' S' post) : SPR K n (tSeq t u) env S post := fun B0 H0 as0 Bk B H as σ hl f c g D r1 r2 =>
  h B0 H0 as0 Bk B H as σ hl f c g { D with nx := u D } ⟨fun env' S' B' H' as' σ' f' c' g' p => k env' S' p B0 H0 as0 Bk B' H' as' σ' hl f' c' g' D r1 r2, fun _ _ _ _ _ _ _ _ p => p.elim, fun _ _ _ _ _ _ _ _ _ p => p.elim, fun _ _ _ _ _ _ _ _ _ p => p.elim, trivial⟩
theorem spr_ret {post : Sl → List Dat → Prop} (h : Ev K te env S x S1) (hp : post x S1) : SPR K n (tRet te) env S post := fun B0 H0 as0 Bk B H as σ hl f c g D r1 r2 =>
  h B H as σ c g _ fun v B1 H1 c1 e1 q1 => r1 v x B1 H1 as S1 (f.step e1) c1 q1 hp
theorem spr_end {post : Sl → List Dat → Prop} (h : SP K n t env S { nx := fun _ T => post (.d .non) T }) : SPR K n t env S post := fun B0 H0 as0 Bk B H as σ hl f c g D r1 r2 =>
  h B0 H0 as0 Bk B H as σ hl f c g D ⟨fun env' S' B' H' as' σ' f' c' g' p => r2 σ' B' H' as' S' f' c' p, fun _ _ _ _ _ _ _ _ p => p.elim, fun _ _ _ _ _ _ _ _ _ p => p.elim, fun _ _ _ _ _ _ _ _ _ p => p.elim, trivial⟩
theorem sp_bodyC {G : List Sl → List Dat → (Sl → List Dat → Prop) → Prop} {N : List Str} {vs : List V} {Q : VK} (h : SpC K G vs H Q E)
    (k : ∀ ss S post, G ss S post → SPR K S.length t (ss.map some ++ List.replicate (N.length - ss.length) none) S post) : t { nx := fun _ H' => Q .non H', rt := Q } (start N vs) H := by
  obtain ⟨B, as, S, ss, post, c, rs, g, q⟩ := h
  refine k ss S post g B H as B B H as _ c.len ⟨Ex.refl B, List.take_length, Evo.refl, fun a ha => by rw [List.drop_length] at ha; cases ha⟩ c (EnvR.start rs) _ (fun v r B' H' as' S' f' c' r1 hp => ?_) fun σ' B' H' as' S' f' c' hp => ?_
  · exact q v r B' H' as' S' f'.base f'.loc c' f'.evo r1 hp
  · exact q .non (.d .non) B' H' as' S' f'.base f'.loc c' f'.evo .non hp
theorem Fr.ext {as' : List Addr} (f : Fr B0 H0 as0 Bk B H as) (e : Evo B H as B' H') (h1 : as'.take as.length = as) (h2 : ∀ a ∈ as'.drop as.length, Nn H a) : Fr B0 H0 as0 Bk B' H' as' where
  kn := f.kn.trans e.ex
  base := by
    have := f.base
    rw [← h1, List.take_take, Nat.min_eq_left f.len] at this
    exact this
  evo := (f.step e).evo
  loc := fun a ha => by
    rw [← List.take_append_drop as.length as', h1, List.drop_append_of_le_length f.len] at ha
    rcases List.mem_append.mp ha with z | z
    · exact f.loc a z
    · exact f.evo.oldN (h2 a z)
theorem EnvR.ext {as' : List Addr} (g : EnvR K B as σ env) (h1 : as'.take as.length = as) : EnvR K B as' σ env := by
  rw [← List.take_append_drop as.length as', h1]
  exact g.grow
/-- x = f(..), f hands new changed things -/
theorem sp_setCallC {G : List Sl → List Dat → (Sl → List Dat → Prop) → Prop} {ss : List Sl} {post : Sl → List Dat → Prop} (h : EvA K tA env S ss S1) (hg : G ss S1 post) (q : ∀ r S2, post r S2 → SP K n u (env.set i (some r)) S2 P) :
    SP K n (tSeq (tAsg (tCall (SpC K G) [] E tA) (gName i)) u) env S P := fun B0 H0 as0 Bk B H as σ hl0 f0 c g D m =>
  h B H as σ c g _ fun vs B1 H1 c1 e1 r1 => ⟨B1, as, S1, ss, post, c1, by rw [List.append_nil]; exact r1, hg, fun v r B2 H2 as2 S2 h1 h2 c2 e2 r2 hp =>
    q r S2 hp B0 H0 as0 Bk B2 H2 as2 _ hl0 ((f0.step e1).ext e2 h1 h2) c2 ((((g.mono e1.ex).ext h1).mono e2.ex).set i r2) D m⟩
/-- x = C(..), an instance that will be changed, whose __init__ makes further things that will be changed -/
theorem sp_setMkC {C : Addr} {G : List Sl → List Dat → (Sl → List Dat → Prop) → Prop} {ss : List Sl} {post : Sl → List Dat → Prop} (h : EvA K tA env S ss S1) (hg : G (.c S1.length :: ss) (S1 ++ [.ins C []]) post) (hn : ∀ r S2, post r S2 → r = .d .non)
    (q : ∀ S2, post (.d .non) S2 → SP K n u (env.set i (some (.c S1.length))) S2 P) : SP K n (tSeq (tAsg (tMake C (SpC K G) [] E tA) (gName i)) u) env S P := fun B0 H0 as0 Bk B H as σ hl0 f0 c g D m =>
  h B H as σ c g _ fun vs B1 H1 c1 e1 r1 x dx hx hdx hne => by
    have hB := c1.Bnone hx
    have hxa := c1.fresh hx
    have hdB := c1.Bnone hdx
    have hda := c1.fresh hdx
    have c2 : Ok K B1 (upd (upd H1 dx (.own x)) x (.ins C dx [])) as S1 := (c1.other hdB hda).other hB hxa
    have e2 : Evo B1 H1 as B1 (upd (upd H1 dx (.own x)) x (.ins C dx [])) := (Evo.refl.other (.of hdx)).other (.of hx)
    have c3 : Ok K B1 (upd (upd H1 dx (.own x)) x (.ins C dx [])) (as ++ [x]) (S1 ++ [.ins C []]) := c2.push hB hxa (CellAt.ofI upd_same .nil) (fun _ _ _ _ _ _ e q _ => by cases e; cases q)
    have grow : ∀ {vs : List V} {ss : List Sl}, RepSs K B1 as vs ss → RepSs K B1 (as ++ [x]) vs ss := by
      intro vs ss h
      induction h with
      | nil => exact .nil
      | cons h _ ih => exact .cons h.grow ih
    have r3 : RepSs K B1 (as ++ [x]) (.ref x :: (vs ++ [])) (.c S1.length :: ss) := by
      refine .cons ⟨x, by rw [← c1.len]; simp, rfl⟩ ?_
      rw [List.append_nil]
      exact grow r1
    refine ⟨B1, as ++ [x], _, _, post, c3, r3, hg, fun v r B4 H4 as4 S4 h1 h2 c4 e4 r4 hp => ?_⟩
    have er := hn r S4 hp
    subst er
    refine ⟨by cases r4; rfl, ?_⟩
    have f3 : Fr B0 H0 as0 Bk B1 _ (as ++ [x]) := ((f0.step e1).step e2).push ((f0.step e1).evo.old hx)
    have hxl : as4[S1.length]? = some x := by
      have hl : S1.length < (as ++ [x]).length := by rw [List.length_append, c1.len]; simp
      rw [← List.take_append_drop (as ++ [x]).length as4, h1, List.getElem?_append_left hl, ← c1.len]
      simp
    exact q S4 hp B0 H0 as0 Bk B4 H4 as4 _ hl0 (f3.ext e4 h1 h2) c4 (((((g.mono e1.ex).grow).ext h1).mono e4.ex).set i ⟨x, hxl, rfl⟩) D m
/-- xs.append(e), xs[i] = e, of a list whose address is known -/
theorem ev_appendA (ho : Ev K to env S (.c k) S1) (h : Ev K te env S1 (.d d) S2) (h1 : LCell S1 k es) (hs : S2[k]? = some (.lsa p ds)) (hl : ds.length < sizeLine) : Ev K (tBM K "list" rAppend to (tCons te tNil)) env S (.d .non) (S2.set k (.lsa p (ds ++ [d]))) := fun B H as σ c g Q q =>
  ho B H as σ c g _ fun v B1 H1 c1 e1 r1 => by
    obtain ⟨a, ha, rfl⟩ := r1
    obtain ⟨_, ws, hw, rw'⟩ := c1.lcell ha h1
    refine ⟨.inl ⟨rfl, ws, Evl.sq_of hw⟩, h B1 H1 as σ c1 (g.mono e1.ex) _ fun v B2 H2 c2 e2 r2 => ?_⟩
    obtain ⟨vs, hv, rv⟩ := (c2.cells k a _ ha hs).2.lsa
    have hap : a = p := by
      have := c2.tb k _ p hs rfl
      rw [ha] at this
      exact Option.some.inj this
    refine ⟨a, vs, v, rfl, rfl, hv, by rw [rv.length]; exact hl, q .non B2 _ (c2.setc ha (show CellO K B2 (.lst _) (.lsa _ _) from rv.append (.cons r2 .nil)) (fun _ _ _ _ z => nomatch z) (fun P z => by rw [hap]; exact Option.some.inj z)) ((e1.trans e2).trans (Evo.setc (List.mem_of_getElem? ha) hv (fun _ z => nomatch z))) .non⟩
theorem sp_setitemA1 {iv : Int} (h : Ev K te env S (.d d) S1) (ho : Ev K to env S1 (.c k) S2) (hi : Ev K ti env S2 (.d (.int iv)) S3) (hs : S3[k]? = some (.lsa p ds)) (hj : ixN ds.length iv = some j) (q : P.nx env (S3.set k (.lsa p (ds.set j d)))) :
    SP K n (tAsg te (gSub to ti rSetL)) env S P := fun B0 H0 as0 Bk B H as σ hl f c g D m =>
  h B H as σ c g _ fun v B1 H1 c1 e1 r1 => ho B1 H1 as σ c1 (g.mono e1.ex) _ fun w B2 H2 c2 e2 r2 => hi B2 H2 as σ c2 (g.mono (e1.trans e2).ex) _ fun w3 B3 H3 c3 e3 r3 => by
    obtain ⟨a, ha, rfl⟩ := r2
    cases r3
    obtain ⟨vs, hv, rv⟩ := (c3.cells k a _ ha hs).2.lsa
    have hap : a = p := by
      have := c3.tb k _ p hs rfl
      rw [ha] at this
      exact Option.some.inj this
    have e03 := ((e1.trans e2).trans e3).trans (Evo.setc (o := .lst (vs.set j v)) (List.mem_of_getElem? ha) hv (fun _ z => nomatch z))
    exact ⟨a, vs, iv, j, rfl, rfl, hv, by rw [rv.length]; exact hj, m.nx _ _ B3 _ as σ (f.step e03) (c3.setc ha (show CellO K B3 (.lst _) (.lsa _ _) from Reps.set j (Rep.mono (e2.trans e3).ex r1) rv) (fun _ _ _ _ z => nomatch z) (fun P z => by rw [hap]; exact Option.some.inj z)) (g.mono e03.ex) q⟩
end
end RW

set_option Elab.async false
set_option linter.all false
set_option maxRecDepth 100000
set_option maxHeartbeats 4000000
namespace RW
open PySem PySem.Spec PyProof.Rows L2
open Evl (Ex)
/-! ### xs[i] += e -/
def rGetL (K : PySem.W.Frag) : V → V → Hp → VK → Prop := fun o i H Q => ∃ (p : Addr) (xs : List V) (j : Nat) (z : V), o = .ref p ∧ i = .int (j : Int) ∧ SqL K H p xs ∧ xs[j]? = some z ∧ Q z H
theorem get_listN {X : Cx} : PGet X (rGetL X.K) := by
  intro pins s σ H o i ov iv Q I ro ri h
  obtain ⟨p, xs, j, z, rfl, rfl, hq, he, q⟩ := h
  cases ro
  obtain ⟨t, rfl⟩ := ri
  obtain ⟨its, r, pl, hz⟩ := I.list hq
  obtain ⟨w, ew, rw'⟩ := r.get he
  have hl := r.length
  have hj : j < xs.length := (List.getElem?_eq_some_iff.mp he).1
  have hn := line63
  exact wpAny_getItem_list (x := w) pl.isList (Int.natCast_nonneg _) (by omega) (by simpa using ew) ⟨z, H, I, rw', q⟩
theorem ixN_of {m p : Nat} (h : p < m) : ixN m (p : Int) = some p := by
  unfold ixN
  simp
  omega
section
variable {K : PySem.W.Frag} {n : Nat} {te ta tb tc to ti tv : TE} {tA : TA} {env env' : Env1} {S S1 S2 S3 : List Dat} {x y z : Sl} {d e : Dat} {ds es ds' : List Dat} {P P' : Post} {t u : TS}
  {B B0 B1 B2 B' Bk H H0 H1 H2 H' : Hp} {as as0 as1 : List Addr} {D : Ends} {σ : L2.St} {i j k : Nat}
theorem sp_augL1 {fn : Int → Int → Int} {p q : Int} (ho : Ev K to env S (.c k) S) (hi : Ev K ti env S (.d (.int (j : Int))) S) (hs : S[k]? = some (.lst ds)) (hj : ds[j]? = some (.int p)) (h : Ev K te env S (.d (.int q)) S) (hq : P.nx env (S.set k (.lst (ds.set j (.int (fn p q)))))) :
    SP K n (tAugS to ti te (rGetL K) (ipI fn) rSetL) env S P := fun B0 H0 as0 Bk B H as σ hl f c g D m =>
  ho B H as σ c g _ fun v B1 H1 c1 e1 r1 => hi B1 H1 as σ c1 (g.mono e1.ex) _ fun w B2 H2 c2 e2 r2 => by
    obtain ⟨a, ha, rfl⟩ := r1
    cases r2
    obtain ⟨vs, hv, rv⟩ := (c2.cells k a _ ha hs).2.lst
    obtain ⟨z, hz, rz⟩ := rv.get hj
    cases rz
    refine ⟨a, vs, j, .int p, rfl, rfl, Evl.sq_of hv, hz, h B2 H2 as σ c2 (g.mono (e1.trans e2).ex) _ fun w3 B3 H3 c3 e3 r3 => ?_⟩
    cases r3
    obtain ⟨vs3, hv3, rv3⟩ := (c3.cells k a _ ha hs).2.lst
    have hjl : j < ds.length := (List.getElem?_eq_some_iff.mp hj).1
    have e03 := ((e1.trans e2).trans e3).trans (Evo.setc (o := .lst (vs3.set j (.int (fn p q)))) (List.mem_of_getElem? ha) hv3 (fun _ z => nomatch z))
    exact ⟨p, q, rfl, rfl, a, vs3, (j : Int), j, rfl, rfl, hv3, by rw [rv3.length]; exact ixN_of hjl, m.nx _ _ B3 _ as σ (f.step e03) (c3.setc ha (show CellO K B3 (.lst _) (.lst _) from Reps.set j (.int _) rv3)) (g.mono e03.ex) hq⟩
end
end RW

set_option Elab.async false
set_option linter.all false
set_option maxRecDepth 100000
set_option maxHeartbeats 4000000
namespace RW
open PySem PySem.Spec PyProof.Rows L2
open Evl (Ex)
/-! ### a, b, c, .. = what is a list or a tuple -/
def gNs : List Nat → TGs
  | [] => gNil
  | i :: r => gCons (gName i) (gNs r)
def setN (env : Env1) : List Nat → List Dat → Env1
  | i :: is, d :: ds => setN (env.set i (some (.d d))) is ds
  | _, _ => env
def gSeqT (K : PySem.W.Frag) (n : Nat) (t : TGs) : TG := fun v σ H Q => gTup K n t v σ H Q ∨ gLst K n t v σ H Q
theorem pg_seqT {X : Cx} {es : List Expr} {k n : Nat} {t : TGs} {pos : Pos} (hc : X.calm = true) (h : PGs X es t) (hn : (assignEach es X.env).length = n := by rfl) (hst : (assignEach es X.env).findIdx? (·.1) = none := by rfl) : PG X (.Tuple es k pos) (gSeqT X.K n t) := by
  refine ⟨fun pins s σ H v u Q I r hw => ?_⟩
  rcases hw with hw | hw
  · exact (pg_tup hc h hn hst).run pins s σ H v u Q I r hw
  · exact (pg_lst hc h hn hst).run pins s σ H v u Q I r hw
section
variable {K : PySem.W.Frag} {B H : Hp} {as : List Addr} {env : Env1} {σ : L2.St} {S : List Dat} {n : Nat}
theorem tgs_names : ∀ {is : List Nat} {ds : List Dat} {vs : List V} {σ : L2.St} {env : Env1} {Q : L2.St → Hp → Prop}, Reps K B vs ds → is.length = ds.length → EnvR K B as σ env → (∀ σ', EnvR K B as σ' (setN env is ds) → (∀ ws : List Nat, (∀ i ∈ is, i ∈ ws) → L2.wipe σ' ws = L2.wipe σ ws) → Q σ' H) → gNs is vs σ H Q
  | [], _, _, _, _, _, .nil, _, g, q => ⟨rfl, q _ g fun _ _ => rfl⟩
  | i :: is, d :: ds, v :: vs, σ, env, Q, .cons r rr, hl, g, q => by
    refine ⟨v, vs, rfl, ?_⟩
    show gNs is vs (σ.set i (some v)) H Q
    refine tgs_names rr (by simpa using hl) (EnvR.set (s := .d d) i g r) fun σ' g' hw => q σ' g' fun ws h => ?_
    rw [hw ws fun j hj => h j (List.mem_cons_of_mem _ hj), wipe_set (h i List.mem_cons_self)]
theorem tg_tupN {is : List Nat} {ds : List Dat} (hl : is.length = ds.length) (hn : n = ds.length) : TgD K (gTup K n (gNs is)) (.tup ds) is (fun env => setN env is ds) := fun B H as S σ env v c g r Q q => by
  cases r with
  | tup h r => exact ⟨_, _, rfl, Evl.ex_t c.ex h, by rw [r.length, hn], tgs_names r hl g q⟩
theorem tg_seqT {is : List Nat} {ds : List Dat} (hl : is.length = ds.length) (hn : n = ds.length) : TgD K (gSeqT K n (gNs is)) (.tup ds) is (fun env => setN env is ds) := fun B H as S σ env v c g r Q q => .inl (tg_tupN hl hn B H as S σ env v c g r Q q)
theorem tg_seqL {is : List Nat} {ds : List Dat} (hl : is.length = ds.length) (hn : n = ds.length) : TgD K (gSeqT K n (gNs is)) (.lst ds) is (fun env => setN env is ds) := fun B H as S σ env v c g r Q q => by
  cases r with
  | lst h r => exact .inr ⟨_, _, rfl, .inl (.inl (c.ex _ _ h)), by rw [r.length, hn], tgs_names r hl g q⟩
/-- at, (point, others) -/
theorem tg_nest {j k l : Nat} {d e f : Dat} : TgD K (gTup K 2 (gCons (gName j) (gCons (gTup K 2 (gCons (gName k) (gCons (gName l) gNil))) gNil))) (.tup [d, .tup [e, f]]) [j, k, l] (fun env => ((env.set j (some (.d d))).set k (some (.d e))).set l (some (.d f))) := fun B H as S σ env v c g r Q q => by
  cases r with
  | tup h r =>
    cases r with
    | cons r1 r =>
      cases r with
      | cons r2 r =>
        cases r
        refine ⟨_, _, rfl, Evl.ex_t c.ex h, rfl, _, _, rfl, ?_⟩
        refine ⟨_, _, rfl, ?_⟩
        refine tg_pair B H as S (σ.set j (some _)) (env.set j (some (.d d))) _ c (EnvR.set (s := .d d) j g r1) r2 _ fun σ' g' hw => ⟨rfl, q σ' g' fun ws h => ?_⟩
        rw [hw ws fun i hi => h i (by simp at hi ⊢; omega), wipe_set (h j (by simp))]
end
theorem pg_seqTK (K : PySem.W.Frag) {X : Cx} {es : List Expr} {k n : Nat} {t : TGs} {pos : Pos} (hc : X.calm = true) (h : PGs X es t) (hK : X.K = K := by rfl) (hn : (assignEach es X.env).length = n := by rfl) (hst : (assignEach es X.env).findIdx? (·.1) = none := by rfl) : PG X (.Tuple es k pos) (gSeqT K n t) := by
  subst hK
  exact pg_seqT hc h hn hst
end RW

set_option Elab.async false
set_option linter.all false
set_option maxRecDepth 100000
set_option maxHeartbeats 4000000
namespace RW
open PySem PySem.Spec PyProof.Rows L2
open Evl (Ex)
def mxL : List Int → Int
  | [] => 0
  | x :: r => if r = [] then x else max x (mxL r)
theorem mxL_in : ∀ {ns : List Int}, ns ≠ [] → mxL ns ∈ ns
  | [], h => absurd rfl h
  | x :: r, _ => by
    unfold mxL
    by_cases h : r = []
    · rw [if_pos h]; exact List.mem_cons_self
    · rw [if_neg h]
      have := mxL_in h
      rcases Int.le_total x (mxL r) with k | k
      · rw [Int.max_eq_right k]; exact List.mem_cons_of_mem _ this
      · rw [Int.max_eq_left k]; exact List.mem_cons_self
theorem mxL_ge : ∀ {ns : List Int} {y : Int}, y ∈ ns → y ≤ mxL ns
  | x :: r, y, hy => by
    unfold mxL
    by_cases h : r = []
    · subst h
      rw [if_pos rfl, List.mem_singleton.mp hy]; exact Int.le_refl _
    · rw [if_neg h]
      rcases List.mem_cons.mp hy with rfl | hy
      · exact Int.le_max_left _ _
      · exact Int.le_trans (mxL_ge hy) (Int.le_max_right _ _)
def mnL (ns : List Int) : Int := - mxL (ns.map fun x => -x)
theorem mnL_in {ns : List Int} (h : ns ≠ []) : mnL ns ∈ ns := by
  have := mxL_in (ns := ns.map fun x => -x) (by simpa using h)
  obtain ⟨x, hx, e⟩ := List.mem_map.mp this
  have e2 : mnL ns = x := by unfold mnL; rw [← e]; omega
  rw [e2]; exact hx
theorem mnL_le {ns : List Int} {y : Int} (hy : y ∈ ns) : mnL ns ≤ y := by
  have := mxL_ge (ns := ns.map fun x => -x) (List.mem_map.mpr ⟨y, hy, rfl⟩)
  unfold mnL; omega
section
variable {K : PySem.W.Frag} {S : List Dat} {x : Sl} {ns : List Int}
theorem cd_maxL (h : SeqL S x (ns.map Dat.int)) (hne : ns ≠ []) : CallD K (rMax K) [x] S (.int (mxL ns)) S := fun B H as vs c r Q q => by
  cases r with
  | cons r1 rr =>
    cases rr
    obtain ⟨a, ws, rfl, hw, rv⟩ := h.read c r1
    have := rv.ints
    subst this
    refine ⟨a, ns, rfl, Evl.sq_of hw, List.length_pos_iff.mpr hne, fun m hm hy => ?_⟩
    have e : m = mxL ns := Int.le_antisymm (mxL_ge hm) (hy _ (mxL_in hne))
    rw [e]
    exact q _ B H c Evo.refl (.int _)
theorem cd_minL (h : SeqL S x (ns.map Dat.int)) (hne : ns ≠ []) : CallD K (rMin K) [x] S (.int (mnL ns)) S := fun B H as vs c r Q q => by
  cases r with
  | cons r1 rr =>
    cases rr
    obtain ⟨a, ws, rfl, hw, rv⟩ := h.read c r1
    have := rv.ints
    subst this
    refine ⟨a, ns, rfl, Evl.sq_of hw, List.length_pos_iff.mpr hne, fun m hm hy => ?_⟩
    have e : m = mnL ns := Int.le_antisymm (hy _ (mnL_in hne)) (mnL_le hm)
    rw [e]
    exact q _ B H c Evo.refl (.int _)
/-- a >> b -/
theorem o_shrI {i j : Int} (h : 0 ≤ j) : Op2 K (rI (fun _ j => 0 ≤ j) fun i j => V.int (i / 2 ^ j.toNat)) (.d (.int i)) (.d (.int j)) S (.int (i / 2 ^ j.toNat)) := op2_int h fun B => .int _
end
/-! ### sum(xs) of a list or a tuple -/
def rSumA (K : PySem.W.Frag) : List V → Hp → VK → Prop := fun vs H Q => ∃ (a : Addr) (ns : List Int), vs = [V.ref a] ∧ (SqL K H a (ns.map V.int) ∨ SqT K H a (ns.map V.int)) ∧ Q (.int ns.sum) H
theorem cr_sumAK (K : PySem.W.Frag) {X : Cx} (hc : X.calm = true := by rfl) (hK : X.K = K := by rfl) : CallR X (.builtin "sum") (rSumA K) := by
  subst hK
  intro pins s σ H vs us Q I r h
  obtain ⟨a, ns, rfl, hs | hs, q⟩ := h
  · exact cr_sum hc pins s σ H _ us Q I r ⟨a, ns, rfl, hs, q⟩
  · obtain ⟨its, rv, hl, _⟩ := I.tuple hs
    rw [Vals.ref1 r]
    have hi := rv.ints
    obtain ⟨xs, e⟩ := hi.allInts.items
    have hn : numsOf (intItems xs).toList = ns := by rw [← e]; exact hi.numsOf
    rw [nums_intItems] at hn
    have hl2 : s.heap.IsTuple a its.toArray := hl
    rw [e] at hl2
    refine PySem.W.ktm_sumG (I.ok.hd hc) hl2 fun h' tk t' hk => ?_
    rw [preSum_eq, List.take_of_length_le (by simp), hn]
    exact ⟨.int _, H, I.kept hk, ⟨_, rfl⟩, q⟩
section
variable {K : PySem.W.Frag} {S : List Dat} {x : Sl} {ns : List Int}
theorem cd_sumA (h : Seq S x (ns.map Dat.int)) : CallD K (rSumA K) [x] S (.int ns.sum) S := fun B H as vs c r Q q => by
  cases r with
  | cons r1 rr =>
    cases rr
    obtain ⟨a, k, ws, rfl, hw, rv⟩ := h.read c r1
    have := rv.ints
    subst this
    exact ⟨a, ns, rfl, sq_or hw, q _ B H c Evo.refl (.int _)⟩
end
theorem pe_fldK (K : PySem.W.Frag) {X : Cx} {o : Expr} {f : Str} {p : Pos} {ta : TE} (ho : PE X o ta) (h : attributeBase o f X.env (eval o X.env) = eval o X.env := by rfl) (hK : X.K = K := by rfl) : PE X (.Attribute o f p) (tFld K ta f) := by
  subst hK
  exact pe_fld ho h
end RW

set_option Elab.async false
set_option linter.all false
set_option maxRecDepth 100000
set_option maxHeartbeats 4000000
namespace RW
open PySem PySem.Spec PyProof.Rows L2
open Evl (Ex)
/-! ### dicts with numbers (and texts) as keys, with what they hold -/
section
variable {κ : Type} [DecidableEq κ]
def valD (kvs : List (κ × Dat)) (k : κ) : Option Dat := (kvs.find? fun kv => decide (kv.1 = k)).map (·.2)
def putD (kvs : List (κ × Dat)) (k : κ) (v : Dat) : List (κ × Dat) :=
  if (kvs.any fun kv => decide (kv.1 = k)) = true then kvs.map (fun kv => if kv.1 = k then (kv.1, v) else kv) else kvs ++ [(k, v)]
end
section
variable {K : PySem.W.Frag} {n : Nat} {te ta tb tc to ti tv : TE} {tA : TA} {env env' : Env1} {S S1 S2 S3 : List Dat} {x y z : Sl} {d e : Dat} {ds es ds' : List Dat} {P P' : Post} {t u : TS}
  {B B0 B1 B2 B' Bk H H0 H1 H2 H' : Hp} {as as0 as1 : List Addr} {D : Ends} {σ : L2.St} {i j k : Nat} {p : Addr} {E : XK} {ks : List (L2.Key × Dat)} {kts : List (List Int × Dat)}
theorem CellAt.dkd {a : Addr} (h : CellAt K B H a (.dkd ks)) : ∃ kvs, H a = some (.dK kvs) ∧ kvs.map (·.1) = ks.map (·.1) ∧ Reps K B (kvs.map (·.2)) (ks.map (·.2)) := by
  obtain ⟨o, h1, h2⟩ := h
  cases o <;> first
    | exact h2.elim
    | exact ⟨_, h1, h2⟩
theorem CellAt.dtd {a : Addr} (h : CellAt K B H a (.dtd kts)) : ∃ kvs, H a = some (.dT kvs) ∧ kvs.map (·.1) = (kts.map fun k => k.1.map Sum.inl) ∧ Reps K B (kvs.map (·.2)) (kts.map (·.2)) := by
  obtain ⟨o, h1, h2⟩ := h
  cases o <;> first
    | exact h2.elim
    | exact ⟨_, h1, h2⟩
theorem val_reps {κ ι : Type} [DecidableEq κ] [DecidableEq ι] {f : ι → κ} (hf : ∀ a b, f a = f b → a = b) {k : ι} : ∀ {kvs : List (κ × V)} {ks : List (ι × Dat)}, kvs.map (·.1) = (ks.map fun p => f p.1) → Reps K B (kvs.map (·.2)) (ks.map (·.2)) → ∀ {d : Dat}, valD ks k = some d → ∃ v, valV kvs (f k) = some v ∧ Rep K B v d
  | [], [], _, _, _, h => by cases h
  | (a, v) :: kvs, (b, e) :: ks, h, r, d, hv => by
    simp only [List.map_cons, List.cons.injEq] at h
    rw [List.map_cons, List.map_cons] at r
    cases r with
    | cons r1 rr =>
      obtain ⟨rfl, h2⟩ := h
      by_cases q : b = k
      · subst q
        have : valD ((b, e) :: ks) b = some e := by unfold valD; simp
        rw [this] at hv; cases hv
        exact ⟨v, valV_pos rfl, r1⟩
      · have q2 : ¬ f b = f k := fun z => q (hf _ _ z)
        have : valD ((b, e) :: ks) k = valD ks k := by unfold valD; simp [List.find?_cons, q]
        rw [this] at hv
        rw [valV_neg (p := (f b, v)) q2]
        exact val_reps hf h2 rr hv
  | [], _ :: _, h, _, _, _ => by simp at h
  | _ :: _, [], h, _, _, _ => by simp at h
theorem any_reps {κ ι : Type} [DecidableEq κ] [DecidableEq ι] {f : ι → κ} (hf : ∀ a b, f a = f b → a = b) {k : ι} : ∀ {kvs : List (κ × V)} {ks : List (ι × Dat)}, kvs.map (·.1) = (ks.map fun p => f p.1) → (kvs.any fun kv => decide (kv.1 = f k)) = ks.any fun kv => decide (kv.1 = k)
  | [], [], _ => rfl
  | (a, v) :: kvs, (b, e) :: ks, h => by
    simp only [List.map_cons, List.cons.injEq] at h
    obtain ⟨rfl, h2⟩ := h
    rw [List.any_cons, List.any_cons, any_reps hf h2]
    congr 1
    exact decide_eq_decide.mpr ⟨fun z => hf _ _ z, fun z => by rw [show b = k from z]⟩
  | [], _ :: _, h => by simp at h
  | _ :: _, [], h => by simp at h
theorem map_reps {κ ι : Type} [DecidableEq κ] [DecidableEq ι] {f : ι → κ} (hf : ∀ a b, f a = f b → a = b) {k : ι} {v : V} {d : Dat} (r : Rep K B v d) : ∀ {kvs : List (κ × V)} {ks : List (ι × Dat)}, kvs.map (·.1) = (ks.map fun p => f p.1) → Reps K B (kvs.map (·.2)) (ks.map (·.2)) →
    (kvs.map fun kv => if kv.1 = f k then (kv.1, v) else kv).map (·.1) = ((ks.map fun kv => if kv.1 = k then (kv.1, d) else kv).map fun p => f p.1) ∧ Reps K B ((kvs.map fun kv => if kv.1 = f k then (kv.1, v) else kv).map (·.2)) ((ks.map fun kv => if kv.1 = k then (kv.1, d) else kv).map (·.2))
  | [], [], _, _ => ⟨rfl, .nil⟩
  | (a, v') :: kvs, (b, e) :: ks, h, rr => by
    simp only [List.map_cons, List.cons.injEq] at h
    rw [List.map_cons, List.map_cons] at rr
    obtain ⟨rfl, h2⟩ := h
    cases rr with
    | cons r1 rr =>
      obtain ⟨i1, i2⟩ := map_reps hf (k := k) r h2 rr
      by_cases q : b = k
      · subst q
        refine ⟨?_, ?_⟩
        · simp only [List.map_cons, if_pos]; rw [i1]
        · simp only [List.map_cons, if_pos]; exact .cons r i2
      · have q2 : ¬ f b = f k := fun z => q (hf _ _ z)
        refine ⟨?_, ?_⟩
        · simp only [List.map_cons, if_neg q, if_neg q2]; rw [i1]
        · simp only [List.map_cons, if_neg q, if_neg q2]; exact .cons r1 i2
  | [], _ :: _, h, _ => by simp at h
  | _ :: _, [], h, _ => by simp at h
theorem put_reps {κ ι : Type} [DecidableEq κ] [DecidableEq ι] {f : ι → κ} (hf : ∀ a b, f a = f b → a = b) {k : ι} {v : V} {d : Dat} (r : Rep K B v d) {kvs : List (κ × V)} {ks : List (ι × Dat)} (h : kvs.map (·.1) = (ks.map fun p => f p.1)) (rr : Reps K B (kvs.map (·.2)) (ks.map (·.2))) :
    (putK kvs (f k) v).map (·.1) = ((putD ks k d).map fun p => f p.1) ∧ Reps K B ((putK kvs (f k) v).map (·.2)) ((putD ks k d).map (·.2)) := by
  unfold putK putD
  rw [any_reps hf h]
  split
  · exact map_reps hf r h rr
  · refine ⟨?_, ?_⟩
    · rw [List.map_append, List.map_append, h]; rfl
    · rw [List.map_append, List.map_append]; exact rr.append (.cons r .nil)
theorem len_reps {κ ι : Type} {f : ι → κ} {kvs : List (κ × V)} {ks : List (ι × Dat)} (h : kvs.map (·.1) = (ks.map fun p => f p.1)) : kvs.length = ks.length := by
  have := congrArg List.length h
  rwa [List.length_map, List.length_map] at this
/-- a, b = {}, e: a is a new dict -/
theorem sp_parDK (hv : Ev K tb env S y S1) (q : SP K n u ((env.set j (some (.c S1.length))).set k (some y)) (S1 ++ [.dkd []]) P) :
    SP K n (tSeq (tPar j k (tCons tDNewK (tCons tb tNil))) u) env S P := fun B0 H0 as0 Bk B H as σ hl f c g D m => fun p hp => by
  have hB := c.Bnone hp
  have hpa := c.fresh hp
  have c2 : Ok K B (upd H p (.dK [])) as S := c.other hB hpa
  have e2 : Evo B H as B (upd H p (.dK [])) := Evo.refl.other (.of hp)
  refine hv B _ as σ c2 (g.mono e2.ex) _ fun w B2 H2 c3 e3 r3 => ?_
  obtain ⟨k1, k2⟩ := e3.kept hpa upd_same hB
  have e03 := e2.trans e3
  exact ⟨_, _, rfl, q B0 H0 as0 Bk _ _ (as ++ [p]) _ hl ((f.step e03).push (f.evo.old hp)) (c3.push k2 hpa ⟨_, k1, rfl, .nil⟩) (((g.mono e03.ex).grow.set (s := .c S1.length) j ⟨p, by rw [← c3.len]; simp, rfl⟩).set k r3.grow) D m⟩
/-- x = {} -/
theorem sp_setDK (q : SP K n u (env.set i (some (.c S.length))) (S ++ [.dkd []]) P) : SP K n (tSeq (tAsg tDNewK (gName i)) u) env S P := fun B0 H0 as0 Bk B H as σ hl f c g D m => fun p hp => by
  have hB := c.Bnone hp
  have hpa := c.fresh hp
  have c2 : Ok K B (upd H p (.dK [])) as S := c.other hB hpa
  have e2 : Evo B H as B (upd H p (.dK [])) := Evo.refl.other (.of hp)
  refine q B0 H0 as0 Bk B _ (as ++ [p]) _ hl ((f.step e2).push (f.evo.old hp)) (c2.push hB hpa ⟨_, upd_same, rfl, .nil⟩) ((g.grow).set i ⟨p, by rw [← c.len]; simp, rfl⟩) D m
theorem key_inj : ∀ a b : L2.Key, id a = id b → a = b := fun _ _ h => h
theorem rep_key {v : V} {iv : Int} (h : Rep K B v (.int iv)) : v = kV (.inl iv) := by cases h; rfl
/-- d[i], i a number -/
theorem ev_dget {iv : Int} (h : Ev K ta env S (.c k) S1) (hi : Ev K ti env S1 (.d (.int iv)) S2) (hs : S2[k]? = some (.dkd ks)) (hv : valD ks (.inl iv) = some d) : Ev K (tDGet ta ti) env S (.d d) S2 := fun B H as σ c g Q q =>
  h B H as σ c g _ fun v B1 H1 c1 e1 r1 => hi B1 H1 as σ c1 (g.mono e1.ex) _ fun w B2 H2 c2 e2 r2 => by
    obtain ⟨p, hp, rfl⟩ := r1
    obtain ⟨kvs, hk, h1, h2⟩ := (c2.cells k p _ hp hs).2.dkd
    obtain ⟨v, hv1, hv2⟩ := val_reps (f := id) key_inj (by simpa using h1) h2 hv
    have hw := rep_key r2
    subst hw
    exact ⟨p, v, rfl, by have := DGet.k (k := .inl iv) hk; rw [show valV kvs (Sum.inl iv) = some v from hv1] at this; exact this, q v B2 H2 c2 (e1.trans e2) hv2⟩
/-- d[i] = e, i a number -/
theorem sp_dput {iv : Int} (h : Ev K te env S (.d d) S1) (ho : Ev K to env S1 (.c k) S2) (hi : Ev K ti env S2 (.d (.int iv)) S3) (hs : S3[k]? = some (.dkd ks)) (hl : ks.length < sizeLine) (q : SP K n u env (S3.set k (.dkd (putD ks (.inl iv) d))) P) :
    SP K n (tSeq (tAsg te (gSub to ti rSetD)) u) env S P := fun B0 H0 as0 Bk B H as σ hl0 f0 c g D m =>
  h B H as σ c g _ fun v B1 H1 c1 e1 r1 => ho B1 H1 as σ c1 (g.mono e1.ex) _ fun w B2 H2 c2 e2 r2 => hi B2 H2 as σ c2 (g.mono (e1.trans e2).ex) _ fun l B3 H3 c3 e3 r3 => by
    obtain ⟨p, hp, rfl⟩ := r2
    have hw := rep_key r3
    subst hw
    obtain ⟨kvs, hk, h1, h2⟩ := (c3.cells k p _ hp hs).2.dkd
    have h1' : kvs.map (·.1) = ks.map fun p => id p.1 := by simpa using h1
    obtain ⟨i1, i2⟩ := put_reps (f := id) key_inj (k := .inl iv) (Rep.mono (e2.trans e3).ex r1) h1' h2
    have e04 := ((e1.trans e2).trans e3).trans (Evo.setc (o := .dK (putK kvs (.inl iv) v)) (List.mem_of_getElem? hp) hk (fun _ z => nomatch z))
    exact ⟨p, _, rfl, .k hk (by rw [len_reps h1']; exact hl), q B0 H0 as0 Bk _ _ as σ hl0 (f0.step e04) (c3.setc hp (show CellO K _ (.dK _) (.dkd _) from ⟨by simpa using i1, i2⟩)) (g.mono e04.ex) D m⟩
theorem sp_dput1 {iv : Int} (h : Ev K te env S (.d d) S1) (ho : Ev K to env S1 (.c k) S2) (hi : Ev K ti env S2 (.d (.int iv)) S3) (hs : S3[k]? = some (.dkd ks)) (hl : ks.length < sizeLine) (q : P.nx env (S3.set k (.dkd (putD ks (.inl iv) d)))) :
    SP K n (tAsg te (gSub to ti rSetD)) env S P := fun B0 H0 as0 Bk B H as σ hl0 f0 c g D m =>
  h B H as σ c g _ fun v B1 H1 c1 e1 r1 => ho B1 H1 as σ c1 (g.mono e1.ex) _ fun w B2 H2 c2 e2 r2 => hi B2 H2 as σ c2 (g.mono (e1.trans e2).ex) _ fun l B3 H3 c3 e3 r3 => by
    obtain ⟨p, hp, rfl⟩ := r2
    have hw := rep_key r3
    subst hw
    obtain ⟨kvs, hk, h1, h2⟩ := (c3.cells k p _ hp hs).2.dkd
    have h1' : kvs.map (·.1) = ks.map fun p => id p.1 := by simpa using h1
    obtain ⟨i1, i2⟩ := put_reps (f := id) key_inj (k := .inl iv) (Rep.mono (e2.trans e3).ex r1) h1' h2
    have e04 := ((e1.trans e2).trans e3).trans (Evo.setc (o := .dK (putK kvs (.inl iv) v)) (List.mem_of_getElem? hp) hk (fun _ z => nomatch z))
    exact ⟨p, _, rfl, .k hk (by rw [len_reps h1']; exact hl), m.nx _ _ _ _ as σ (f0.step e04) (c3.setc hp (show CellO K _ (.dK _) (.dkd _) from ⟨by simpa using i1, i2⟩)) (g.mono e04.ex) q⟩
end
end RW

set_option Elab.async false
set_option linter.all false
set_option maxRecDepth 100000
set_option maxHeartbeats 4000000
namespace RW
open PySem PySem.Spec PyProof.Rows L2
open Evl (Ex)
/-! ### any, all of lists of data -/
def rAnyD (K : PySem.W.Frag) : List V → Hp → VK → Prop := fun vs H Q => ∃ (a : Addr) (ds : List PyData), vs = [V.ref a] ∧ Dp K H (.ref a) (.list ds) ∧ PyData.plainAll ds = true ∧ (∀ x ∈ ds, x.fits63) ∧ Q (.bl (ds.any PyData.truthy)) H
theorem cr_anyD {X : Cx} (K : PySem.W.Frag) (hc : X.calm = true) (hK : X.K = K := by rfl) : CallR X (.builtin "any") (rAnyD K) := by
  subst hK
  intro pins s σ H vs us Q I r h
  obtain ⟨a, ds, rfl, hd, hp, hf, q⟩ := h
  obtain ⟨as, r1⟩ := Dp.reads I (.list ds) (.ref a) (.ref a) hd rfl
  rw [Vals.ref1 r]
  cases r1 with
  | list h1 h2 h3 h4 =>
    exact PySem.W.any_list_data (I.ok.hd hc) ⟨_, h1, h2, _, h3⟩ h4 hp hf fun h' tk hk => ⟨.bl _, H, I.kept hk, rfl, q⟩
section
variable {K : PySem.W.Frag} {S : List Dat} {x : Sl} {ds : List Dat}
/-- any([xs, ..]), the items tuples of data -/
theorem plain_all : ∀ {ds : List Dat}, (∀ d ∈ ds, (py d).plain = true) → PyData.plainAll (pyAll ds) = true
  | [], _ => rfl
  | d :: ds, h => by
    show ((py d).plain && PyData.plainAll (pyAll ds)) = true
    rw [h d List.mem_cons_self, plain_all fun d hd => h d (List.mem_cons_of_mem _ hd)]; rfl
theorem pl_plain {m : Nat} {d : Dat} (h : Pl m d) : (py d).plain = true := by
  induction h with
  | non => rfl
  | bl b => rfl
  | int i => rfl
  | str h => rfl
  | tup h ih => exact plain_all ih
  | lst h ih => exact plain_all ih
theorem cd_anyT {m : Nat} {tss : List (List Dat)} (h : PlS S x m (.lst (tss.map Dat.tup))) (hf : ∀ t ∈ tss, t.length < 2 ^ 62) : CallD K (rAnyD K) [x] S (.bl (tss.any fun t => !t.isEmpty)) S := fun B H as vs c r Q q => by
  cases r with
  | cons r1 rr =>
    cases rr
    have hd := h.dp c r1
    have hl := pl_plain h.1
    obtain ⟨a, ha⟩ : ∃ a, ‹V› = .ref a := by
      rcases h.2 with rfl | ⟨k, ds, rfl, hds, hk⟩
      · cases r1; exact ⟨_, rfl⟩
      · obtain ⟨a, _, e⟩ := r1; exact ⟨a, e⟩
    subst ha
    have key : ∀ L : List (List Dat), (pyAll (L.map Dat.tup)).any PyData.truthy = L.any fun t => !t.isEmpty := fun L => by
      induction L with
      | nil => rfl
      | cons t L ih =>
        show (PyData.truthy (.tuple (pyAll t)) || (pyAll (L.map Dat.tup)).any PyData.truthy) = _
        rw [ih, List.any_cons]
        congr 1
        cases t <;> rfl
    have fit : ∀ L : List (List Dat), (∀ t ∈ L, t.length < 2 ^ 62) → ∀ x ∈ pyAll (L.map Dat.tup), x.fits63 := fun L => by
      induction L with
      | nil => intro _ x hx; cases hx
      | cons t L ih =>
        intro hL x hx
        rcases List.mem_cons.mp (show x ∈ PyData.tuple (pyAll t) :: pyAll (L.map Dat.tup) from hx) with rfl | hx
        · show ((pyAll t).length : Int) < 2 ^ 63
          have e : (pyAll t).length = t.length := by
            clear hL ih hx
            induction t with
            | nil => rfl
            | cons y t ih => show (pyAll t).length + 1 = _; rw [ih]; rfl
          have := hL t List.mem_cons_self
          omega
        · exact ih (fun t ht => hL t (List.mem_cons_of_mem _ ht)) x hx
    refine ⟨a, pyAll (tss.map Dat.tup), rfl, hd, hl, fit tss hf, ?_⟩
    rw [key tss]
    exact q _ B H c Evo.refl (.bl _)
end
end RW

set_option Elab.async false
set_option linter.all false
set_option maxRecDepth 100000
set_option maxHeartbeats 4000000
namespace RW
open PySem PySem.Spec PyProof.Rows L2
open Evl (Ex)
/-! ### a def whose result is known by what holds of it -/
def SpE (K : PySem.W.Frag) (G : List Sl → List Dat → (Dat → List Dat → Prop) → Prop) : Sp := fun vs H Q _ => ∃ B as S ss post, Ok K B H as S ∧ RepSs K B as vs ss ∧ G ss S post ∧
  ∀ v r B' H' S', Ok K B' H' as S' → Evo B H as B' H' → Rep K B' v r → post r S' → Q v H'
def EvE (K : PySem.W.Frag) (te : TE) (env : Env1) (S : List Dat) (post : Sl → List Dat → Prop) : Prop :=
  ∀ B H as σ, Ok K B H as S → EnvR K B as σ env → ∀ Q : VK, (∀ v r B' H' S', Ok K B' H' as S' → Evo B H as B' H' → RepS K B' as v r → post r S' → Q v H') → te σ H Q
section
variable {K : PySem.W.Frag} {n : Nat} {te ta tb tc to ti tv : TE} {tA : TA} {env env' : Env1} {S S1 S2 S3 : List Dat} {x y z : Sl} {d e : Dat} {ds es ds' : List Dat} {P P' : Post} {t u : TS}
  {B B0 B1 B2 B' Bk H H0 H1 H2 H' : Hp} {as as0 as1 : List Addr} {D : Ends} {σ : L2.St} {i j k : Nat} {p : Addr} {E : XK}
theorem spe_len {G : List Sl → List Dat → (Dat → List Dat → Prop) → Prop} {k : Nat} (h : ∀ ss S post, G ss S post → ss.length = k) : ∀ vs H Q E, SpE K G vs H Q E → vs.length = k := fun vs H Q E q => by
  obtain ⟨B, as, S, ss, post, c, rs, g, _⟩ := q
  rw [rs.length]
  exact h ss S post g
theorem sp_bodyE {G : List Sl → List Dat → (Dat → List Dat → Prop) → Prop} {N : List Str} {vs : List V} {Q : VK} (h : SpE K G vs H Q E)
    (k : ∀ ss S post, G ss S post → SP K S.length t (ss.map some ++ List.replicate (N.length - ss.length) none) S { rt := post, nx := fun _ T => post .non (T.take S.length) }) : t { nx := fun _ H' => Q .non H', rt := Q } (start N vs) H := by
  obtain ⟨B, as, S, ss, post, c, rs, g, q⟩ := h
  refine k ss S post g B H as B B H as _ c.len ⟨Ex.refl B, List.take_length, Evo.refl, fun a ha => by rw [List.drop_length] at ha; cases ha⟩ c (EnvR.start rs) _ ⟨fun env' T B' H' as' σ' f' c' g' p1 => ?_, fun v r' T B' H' c' e' r1 p1 => ?_, fun _ _ _ _ _ _ _ _ _ p => p.elim, fun _ _ _ _ _ _ _ _ _ p => p.elim, trivial⟩
  · have c2 := c'.upto as.length
    rw [f'.base, c.len] at c2
    exact q .non .non B' H' _ c2 f'.evo .non p1
  · exact q v r' B' H' T c' e' r1 p1
/-- x = e, e by what holds of it -/
theorem sp_setE {post : Sl → List Dat → Prop} (h : EvE K te env S post) (q : ∀ r S2, post r S2 → SP K n u (env.set i (some r)) S2 P) : SP K n (tSeq (tAsg te (gName i)) u) env S P := fun B0 H0 as0 Bk B H as σ hl f c g D m =>
  h B H as σ c g _ fun v r B1 H1 S1 c1 e1 r1 hp => q r S1 hp B0 H0 as0 Bk B1 H1 as _ hl (f.step e1) c1 ((g.mono e1.ex).set i r1) D m
theorem sp_setE1 {post : Sl → List Dat → Prop} (h : EvE K te env S post) (q : ∀ r S2, post r S2 → P.nx (env.set i (some r)) S2) : SP K n (tAsg te (gName i)) env S P := fun B0 H0 as0 Bk B H as σ hl f c g D m =>
  h B H as σ c g _ fun v r B1 H1 S1 c1 e1 r1 hp => m.nx _ S1 B1 H1 as _ (f.step e1) c1 ((g.mono e1.ex).set i r1) (q r S1 hp)
/-- return e -/
theorem sp_retE {post : Sl → List Dat → Prop} (h : EvE K te env S post) (q : ∀ r S2, post r S2 → ∃ d, r = .d d ∧ P.rt d (S2.take n)) : SP K n (tRet te) env S P := fun B0 H0 as0 Bk B H as σ hl f c g D m =>
  h B H as σ c g _ fun v r B1 H1 S1 c1 e1 r1 hp => by
    obtain ⟨d, rfl, hq⟩ := q r S1 hp
    have f1 := f.step e1
    have c2 := c1.upto as0.length
    rw [f1.base] at c2
    subst hl
    exact m.rt v d _ B1 H1 c2 f1.evo r1 hq
theorem ev_callE {G : List Sl → List Dat → (Dat → List Dat → Prop) → Prop} {ss : List Sl} {post : Dat → List Dat → Prop} (h : EvA K tA env S ss S1) (hg : G ss S1 post) : EvE K (tCall (SpE K G) [] E tA) env S (fun r T => ∃ d, r = .d d ∧ post d T) := fun B H as σ c g Q q =>
  h B H as σ c g _ fun vs B1 H1 c1 e1 r1 => ⟨B1, as, S1, ss, post, c1, by rw [List.append_nil]; exact r1, hg, fun v r B2 H2 S2 c2 e2 r2 hp => q v (.d r) B2 H2 S2 c2 (e1.trans e2) r2 ⟨r, rfl, hp⟩⟩
theorem EvE.ev {post : Sl → List Dat → Prop} (h : EvE K te env S post) (q : ∀ r S2, post r S2 → r = x ∧ S2 = S1) : Ev K te env S x S1 := fun B H as σ c g Q k =>
  h B H as σ c g Q fun v r B1 H1 S2 c1 e1 r1 hp => by
    obtain ⟨rfl, rfl⟩ := q r S2 hp
    exact k v B1 H1 c1 e1 r1
theorem Ev.ofEv (h : Ev K te env S x S1) : EvE K te env S (fun r T => r = x ∧ T = S1) := fun B H as σ c g Q k =>
  h B H as σ c g Q fun v B1 H1 c1 e1 r1 => k v x B1 H1 S1 c1 e1 r1 ⟨rfl, rfl⟩
/-- e[i] -/
theorem ev_ixE {post : Sl → List Dat → Prop} {iv : Int} (h : EvE K te env S post) (q : ∀ r S2, post r S2 → Ev K ti env S2 (.d (.int iv)) S1 ∧ ∃ ds, Seq S1 r ds ∧ atI ds iv = some d) : Ev K (tOp (rIx K) te ti) env S (.d d) S1 := fun B H as σ c g Q k =>
  h B H as σ c g _ fun v r B1 H1 S2 c1 e1 r1 hp => by
    obtain ⟨hi, ds, hs, ha⟩ := q r S2 hp
    refine hi B1 H1 as σ c1 (g.mono e1.ex) _ fun w B2 H2 c2 e2 r2 => ?_
    exact op2_ix hs ha B2 H2 as v w c2 (r1.mono e2.ex) r2 _ fun u B3 H3 c3 e3 r3 => k u B3 H3 c3 ((e1.trans e2).trans e3) r3
/-- a, b, .. = e, its parts known -/
theorem sp_asgE {post : Sl → List Dat → Prop} {g : TG} {is : List Nat} {f : Dat → Env1 → Env1} (h : EvE K te env S post) (q : ∀ r S2, post r S2 → ∃ d, r = .d d ∧ TgD K g d is (f d) ∧ SP K n u (f d env) S2 P) : SP K n (tSeq (tAsg te g) u) env S P := fun B0 H0 as0 Bk B H as σ hl f0 c g0 D m =>
  h B H as σ c g0 _ fun v r B1 H1 S1 c1 e1 r1 hp => by
    obtain ⟨d, rfl, hg, k⟩ := q r S1 hp
    exact hg B1 H1 as S1 σ env v c1 (g0.mono e1.ex) r1 _ fun σ' g' _ => k B0 H0 as0 Bk B1 H1 as σ' hl (f0.step e1) c1 g' D m
end
end RW

set_option Elab.async false
set_option linter.all false
set_option maxRecDepth 100000
set_option maxHeartbeats 4000000
namespace RW
open PySem PySem.Spec PyProof.Rows L2
open Evl (Ex)
/-! ### min and max of numbers in a list or a tuple -/
theorem mxL_fold : ∀ (xs : List Int) (x : Int), xs.foldl max x = mxL (x :: xs)
  | [], x => rfl
  | y :: xs, x => by
    rw [List.foldl_cons, mxL_fold xs]
    have e : mxL (x :: y :: xs) = max x (mxL (y :: xs)) := by
      show (if (y :: xs) = [] then x else max x (mxL (y :: xs))) = _
      rw [if_neg (by simp)]
    rw [e]
    unfold mxL
    by_cases h : xs = []
    · rw [if_pos h, if_pos h]
    · rw [if_neg h, if_neg h]; omega
theorem mnL_fold (xs : List Int) (x : Int) : xs.foldl min x = mnL (x :: xs) := by
  have key : ∀ (xs : List Int) (x : Int), - xs.foldl min x = (xs.map fun z => -z).foldl max (-x) := fun xs => by
    induction xs with
    | nil => intro x; rfl
    | cons y xs ih =>
      intro x
      rw [List.foldl_cons, List.map_cons, List.foldl_cons, ih]
      congr 1; omega
  have := key xs x
  rw [mxL_fold] at this
  unfold mnL
  rw [List.map_cons]; omega
def rMinA (K : PySem.W.Frag) : List V → Hp → VK → Prop := fun vs H Q => ∃ (a : Addr) (ns : List Int), vs = [V.ref a] ∧ (SqL K H a (ns.map V.int) ∨ SqT K H a (ns.map V.int)) ∧ ns ≠ [] ∧ Q (.int (mnL ns)) H
def rMaxA (K : PySem.W.Frag) : List V → Hp → VK → Prop := fun vs H Q => ∃ (a : Addr) (ns : List Int), vs = [V.ref a] ∧ (SqL K H a (ns.map V.int) ∨ SqT K H a (ns.map V.int)) ∧ ns ≠ [] ∧ Q (.int (mxL ns)) H
theorem dp_ints {K : PySem.W.Frag} {H : Hp} : ∀ ns : List Int, DpAll K H (ns.map V.int) (ns.map PyData.int)
  | [] => .nil
  | n :: ns => .cons (.int n) (dp_ints ns)
theorem alike_ints (ns : List Int) : PySem.W.AlikeAll (ns.map PyData.int) := by
  refine ⟨fun x hx y hy => ?_, fun x hx => ?_⟩
  · obtain ⟨i, _, rfl⟩ := List.mem_map.mp hx
    obtain ⟨j, _, rfl⟩ := List.mem_map.mp hy
    rfl
  · obtain ⟨i, _, rfl⟩ := List.mem_map.mp hx
    exact fun z => nomatch z
theorem depth_ints : ∀ ns : List Int, PyData.depthAll (ns.map PyData.int) = 0
  | [] => rfl
  | n :: ns => by
    show max (PyData.depth (.int n)) (PyData.depthAll (ns.map PyData.int)) = 0
    rw [depth_ints ns]; rfl
theorem cr_minA {X : Cx} (K : PySem.W.Frag) (hu : X.A.units + 64 < cLine) (hc : X.calm = true := by rfl) (hK : X.K = K := by rfl) : CallR X (.builtin "min") (rMinA K) := by
  subst hK
  intro pins s σ H vs us Q I r h
  obtain ⟨a, ns, rfl, hs, hne, q⟩ := h
  obtain ⟨x, xs, rfl⟩ : ∃ x xs, ns = x :: xs := by cases ns with | nil => exact absurd rfl hne | cons x xs => exact ⟨x, xs, rfl⟩
  have hu2 : X.A.units + 1 + PyData.depthAll (PyData.int x :: xs.map PyData.int) < cLine := by
    have : PyData.depthAll (PyData.int x :: xs.map PyData.int) = 0 := depth_ints (x :: xs)
    omega
  rw [Vals.ref1 r]
  rcases hs with hs | hs
  · obtain ⟨as, r1⟩ := Dp.reads I (.list ((x :: xs).map .int)) (.ref a) (.ref a) (.lst hs (dp_ints _)) rfl
    cases r1 with
    | list h1 h2 h3 h4 =>
      refine PySem.W.min_list_data (I.ok.hd hc) ⟨_, h1, h2, _, h3⟩ h4 (alike_ints (x :: xs)) hu2 fun i v h' tk bs hv hr hk => ⟨.int (mnL (x :: xs)), H, I.kept hk, ?_, q⟩
      rw [PySem.W.minD_ints, mnL_fold] at hr
      cases hr
      exact ⟨_, rfl⟩
  · obtain ⟨as, r1⟩ := Dp.reads I (.tuple ((x :: xs).map .int)) (.ref a) (.ref a) (.tup hs (dp_ints _)) rfl
    cases r1 with
    | tuple h1 h2 h3 h4 =>
      refine PySem.W.min_tuple_data (I.ok.hd hc) ⟨_, h1, h2, _, h3⟩ h4 (alike_ints (x :: xs)) hu2 fun i v h' tk bs hv hr hk => ⟨.int (mnL (x :: xs)), H, I.kept hk, ?_, q⟩
      rw [PySem.W.minD_ints, mnL_fold] at hr
      cases hr
      exact ⟨_, rfl⟩
theorem cr_maxA {X : Cx} (K : PySem.W.Frag) (hu : X.A.units + 64 < cLine) (hc : X.calm = true := by rfl) (hK : X.K = K := by rfl) : CallR X (.builtin "max") (rMaxA K) := by
  subst hK
  intro pins s σ H vs us Q I r h
  obtain ⟨a, ns, rfl, hs, hne, q⟩ := h
  obtain ⟨x, xs, rfl⟩ : ∃ x xs, ns = x :: xs := by cases ns with | nil => exact absurd rfl hne | cons x xs => exact ⟨x, xs, rfl⟩
  have hu2 : X.A.units + 1 + PyData.depthAll (PyData.int x :: xs.map PyData.int) < cLine := by
    have : PyData.depthAll (PyData.int x :: xs.map PyData.int) = 0 := depth_ints (x :: xs)
    omega
  rw [Vals.ref1 r]
  rcases hs with hs | hs
  · obtain ⟨as, r1⟩ := Dp.reads I (.list ((x :: xs).map .int)) (.ref a) (.ref a) (.lst hs (dp_ints _)) rfl
    cases r1 with
    | list h1 h2 h3 h4 =>
      refine PySem.W.max_list_data (I.ok.hd hc) ⟨_, h1, h2, _, h3⟩ h4 (alike_ints (x :: xs)) hu2 fun i v h' tk bs hv hr hk => ⟨.int (mxL (x :: xs)), H, I.kept hk, ?_, q⟩
      rw [PySem.W.maxD_ints, mxL_fold] at hr
      cases hr
      exact ⟨_, rfl⟩
  · obtain ⟨as, r1⟩ := Dp.reads I (.tuple ((x :: xs).map .int)) (.ref a) (.ref a) (.tup hs (dp_ints _)) rfl
    cases r1 with
    | tuple h1 h2 h3 h4 =>
      refine PySem.W.max_tuple_data (I.ok.hd hc) ⟨_, h1, h2, _, h3⟩ h4 (alike_ints (x :: xs)) hu2 fun i v h' tk bs hv hr hk => ⟨.int (mxL (x :: xs)), H, I.kept hk, ?_, q⟩
      rw [PySem.W.maxD_ints, mxL_fold] at hr
      cases hr
      exact ⟨_, rfl⟩
section
variable {K : PySem.W.Frag} {S : List Dat} {x : Sl} {ns : List Int}
theorem cd_minA (h : Seq S x (ns.map Dat.int)) (hne : ns ≠ []) : CallD K (rMinA K) [x] S (.int (mnL ns)) S := fun B H as vs c r Q q => by
  cases r with
  | cons r1 rr =>
    cases rr
    obtain ⟨a, k, ws, rfl, hw, rv⟩ := h.read c r1
    have := rv.ints
    subst this
    exact ⟨a, ns, rfl, sq_or hw, hne, q _ B H c Evo.refl (.int _)⟩
theorem cd_maxA (h : Seq S x (ns.map Dat.int)) (hne : ns ≠ []) : CallD K (rMaxA K) [x] S (.int (mxL ns)) S := fun B H as vs c r Q q => by
  cases r with
  | cons r1 rr =>
    cases rr
    obtain ⟨a, k, ws, rfl, hw, rv⟩ := h.read c r1
    have := rv.ints
    subst this
    exact ⟨a, ns, rfl, sq_or hw, hne, q _ B H c Evo.refl (.int _)⟩
end
/-! ### not xs as a value -/
theorem pe_notTK (K : PySem.W.Frag) {X : Cx} {a : Expr} {ta : TE} {pos : Pos} (ha : PE X a ta) (hK : X.K = K := by rfl) : PE X (.UnaryOp .Not a pos) (tNotT K ta) := by
  subst hK
  exact pe_notT ha
section
variable {K : PySem.W.Frag} {ta : TE} {env : Env1} {S S1 : List Dat} {x : Sl} {ds : List Dat}
theorem ev_notT (h : Ev K ta env S x S1) (hs : Seq S1 x ds) : Ev K (tNotT K ta) env S (.d (.bl ds.isEmpty)) S1 := fun B H as σ c g Q q => h B H as σ c g _ fun v B1 H1 c1 e1 r1 => by
  obtain ⟨a, k, vs, rfl, hq, hr⟩ := hs.read c1 r1
  refine ⟨!ds.isEmpty, ?_, by rw [Bool.not_not]; exact q _ B1 H1 c1 e1 (.bl _)⟩
  rw [← isEmpty_reps hr]
  cases k with
  | true => exact .inl ⟨vs, hq, rfl⟩
  | false => exact .inr (.inl ⟨vs, hq, rfl⟩)
end
/-! ### in, not in of lists and tuples of data -/
theorem u65 {k : Nat} {A : Around} (r : Room k A) : A.units + 65 < cLine := by have := r.un; omega
def rInA (K : PySem.W.Frag) (neg : Bool) : R2 := fun x y H Q => ∃ d ds, Dp K H x d ∧ (Dp K H y (.list ds) ∨ Dp K H y (.tuple ds)) ∧ SeqAt.shaped d = true ∧ PyData.canLayAll0 ds = true ∧ Q (.bl (neg != ds.any fun z => PyData.eqv z d)) H
theorem op_inAK (K : PySem.W.Frag) {X : Cx} (hu : X.A.units + 65 < cLine) (hK : X.K = K := by rfl) : OpR X (compareOp .In) (rInA K false) := by
  subst hK
  intro pins s σ H x y v u Q I rx ry h
  obtain ⟨d, ds, hd, he, sd, se, q⟩ := h
  obtain ⟨as, r1⟩ := Dp.reads I d x v hd rx
  rcases he with he | he
  · obtain ⟨bs, r2⟩ := Dp.reads I (.list ds) y u he ry
    exact SeqAt.in_list_reads r2 r1 se (SeqAt.canLay_of_shaped sd) (room_in_shaped sd hu) ⟨.bl _, H, I, rfl, by simpa using q⟩
  · obtain ⟨bs, r2⟩ := Dp.reads I (.tuple ds) y u he ry
    exact SeqAt.in_tuple_reads r2 r1 se (SeqAt.canLay_of_shaped sd) (room_in_shaped sd hu) ⟨.bl _, H, I, rfl, by simpa using q⟩
theorem op_notInAK (K : PySem.W.Frag) {X : Cx} (hu : X.A.units + 65 < cLine) (hK : X.K = K := by rfl) : OpR X (compareOp .NotIn) (rInA K true) := by
  subst hK
  intro pins s σ H x y v u Q I rx ry h
  obtain ⟨d, ds, hd, he, sd, se, q⟩ := h
  obtain ⟨as, r1⟩ := Dp.reads I d x v hd rx
  rcases he with he | he
  · obtain ⟨bs, r2⟩ := Dp.reads I (.list ds) y u he ry
    exact SeqAt.notIn_list_reads r2 r1 se (SeqAt.canLay_of_shaped sd) (room_in_shaped sd hu) ⟨.bl _, H, I, rfl, by simpa using q⟩
  · obtain ⟨bs, r2⟩ := Dp.reads I (.tuple ds) y u he ry
    exact SeqAt.notIn_tuple_reads r2 r1 se (SeqAt.canLay_of_shaped sd) (room_in_shaped sd hu) ⟨.bl _, H, I, rfl, by simpa using q⟩
section
variable {K : PySem.W.Frag} {S : List Dat} {x y : Sl} {d : Dat} {ds : List Dat} {neg : Bool}
theorem o_inA {m1 m2 : Nat} (h1 : PlS S x m1 d) (h2 : PlS S y m2 (.tup ds) ∨ PlS S y m2 (.lst ds)) (hm : m1 ≤ 64) : Op2 K (rInA K neg) x y S (.bl (neg != ds.any fun e => eqD e d)) := fun B H as v w c r1 r2 Q q => by
  have e : ∀ L : List Dat, ((pyAll L).any fun z => PyData.eqv z (py d)) = L.any fun e => eqD e d := fun L => by
    induction L with
    | nil => rfl
    | cons z L ih =>
      show (PyData.eqv (py z) (py d) || (pyAll L).any fun z => PyData.eqv z (py d)) = _
      rw [ih]; rfl
  have hl : PyData.canLayAll0 (pyAll ds) = true := by
    rcases h2 with h2 | h2
    · exact h2.1.lay.1
    · exact h2.1.lay.1
  refine ⟨py d, pyAll ds, h1.dp c r1, ?_, h1.1.shaped hm, hl, ?_⟩
  · rcases h2 with h2 | h2
    · exact .inr (h2.dp c r2)
    · exact .inl (h2.dp c r2)
  · rw [e]; exact q _ B H c Evo.refl (.bl _)
end
end RW

set_option Elab.async false
set_option linter.all false
set_option maxRecDepth 100000
set_option maxHeartbeats 4000000
namespace RW
open PySem PySem.Spec PyProof.Rows L2
open Evl (Ex)
/-! ### what is known only by what holds of it: arguments, new lists, tests, what is walked -/
def EvAE (K : PySem.W.Frag) (ta : TA) (env : Env1) (S : List Dat) (post : List Sl → List Dat → Prop) : Prop :=
  ∀ B H as σ, Ok K B H as S → EnvR K B as σ env → ∀ Q : List V → Hp → Prop, (∀ vs rs B' H' S', Ok K B' H' as S' → Evo B H as B' H' → RepSs K B' as vs rs → post rs S' → Q vs H') → ta σ H Q
def EvNE (K : PySem.W.Frag) (te : TE) (env : Env1) (S : List Dat) (post : List Dat → List Dat → Prop) : Prop :=
  ∀ B H as σ, Ok K B H as S → EnvR K B as σ env → ∀ Q : VK, (∀ p B' H' vs ds S', Ok K B' H' as S' → Evo B H as B' H' → Fresh H as p → B' p = none → H' p = some (.lst vs) → Reps K B' vs ds → post ds S' → Q (.ref p) H') → te σ H Q
def EvTE (K : PySem.W.Frag) (tt : TT) (env : Env1) (S : List Dat) (post : Bool → List Dat → Prop) : Prop :=
  ∀ B H as σ, Ok K B H as S → EnvR K B as σ env → ∀ Q : Bool → Hp → Prop, (∀ b B' H' S', Ok K B' H' as S' → Evo B H as B' H' → post b S' → Q b H') → tt σ H Q
def IterE (K : PySem.W.Frag) (wi : TI) (env : Env1) (S : List Dat) (post : List Dat → (List Addr → List Addr → List Dat → Prop) → List Dat → Prop) : Prop :=
  ∀ B H as σ, Ok K B H as S → EnvR K B as σ env → ∀ R : It → Hp → Prop, (∀ J B1 H1 ds G S1, Ok K B1 H1 as S1 → Evo B H as B1 H1 → post ds G S1 → WalkD K B1 J (G as) ds → R J H1) → wi σ H R
section
variable {K : PySem.W.Frag} {n : Nat} {te ta tb tc to ti tv : TE} {tt tu : TT} {tA tR : TA} {env env' : Env1} {S S1 S2 S3 : List Dat} {x y z : Sl} {d e : Dat} {ds es ds' : List Dat} {P P' : Post} {t u : TS} {r r' : R2}
  {B B0 B1 B2 B' Bk H H0 H1 H2 H' : Hp} {as as0 as1 : List Addr} {D : Ends} {σ : L2.St} {i j k : Nat} {p : Addr} {E : XK} {p1 p2 post : Sl → List Dat → Prop} {pA : List Sl → List Dat → Prop} {pN : List Dat → List Dat → Prop} {pT : Bool → List Dat → Prop}
/-! from the deterministic ones -/
theorem EvA.ofEv {rs : List Sl} (h : EvA K tA env S rs S1) : EvAE K tA env S (fun r T => r = rs ∧ T = S1) := fun B H as σ c g Q k =>
  h B H as σ c g Q fun vs B1 H1 c1 e1 r1 => k vs rs B1 H1 S1 c1 e1 r1 ⟨rfl, rfl⟩
theorem EvN.ofEv (h : EvN K te env S ds S1) : EvNE K te env S (fun r T => r = ds ∧ T = S1) := fun B H as σ c g Q k =>
  h B H as σ c g Q fun p B1 H1 vs c1 e1 hp hb hl r1 => k p B1 H1 vs ds S1 c1 e1 hp hb hl r1 ⟨rfl, rfl⟩
theorem EvT.ofEv {b : Bool} (h : EvT K tt env S b S1) : EvTE K tt env S (fun r T => r = b ∧ T = S1) := fun B H as σ c g Q k =>
  h B H as σ c g Q fun B1 H1 c1 e1 => k b B1 H1 S1 c1 e1 ⟨rfl, rfl⟩
theorem IterD.ofEv {wi : TI} {G : List Addr → List Addr → List Dat → Prop} (h : IterD K wi env S G ds S1) : IterE K wi env S (fun r G' T => r = ds ∧ G' = G ∧ T = S1) := fun B H as σ c g R k =>
  h B H as σ c g R fun J B1 H1 c1 e1 w => k J B1 H1 ds G S1 c1 e1 ⟨rfl, rfl, rfl⟩ w
theorem EvE.imp (h : EvE K te env S p1) (q : ∀ r T, p1 r T → post r T) : EvE K te env S post := fun B H as σ c g Q k =>
  h B H as σ c g Q fun v r B1 H1 T c1 e1 r1 hp => k v r B1 H1 T c1 e1 r1 (q r T hp)
theorem EvTE.imp {pT' : Bool → List Dat → Prop} (h : EvTE K tt env S pT) (q : ∀ r T, pT r T → pT' r T) : EvTE K tt env S pT' := fun B H as σ c g Q k =>
  h B H as σ c g Q fun b B1 H1 T c1 e1 hp => k b B1 H1 T c1 e1 (q b T hp)
theorem EvNE.imp {pN' : List Dat → List Dat → Prop} (h : EvNE K te env S pN) (q : ∀ r T, pN r T → pN' r T) : EvNE K te env S pN' := fun B H as σ c g Q k =>
  h B H as σ c g Q fun p B1 H1 vs ds T c1 e1 a b cc d hp => k p B1 H1 vs ds T c1 e1 a b cc d (q ds T hp)
theorem EvE.inEnv (e : env = env') (h : EvE K te env' S p1) : EvE K te env S p1 := e ▸ h
/-- one value, known -/
theorem Ev.e1 (h : Ev K te env S x S1) (q : post x S1) : EvE K te env S post := fun B H as σ c g Q k =>
  h B H as σ c g Q fun v B1 H1 c1 e1 r1 => k v x B1 H1 S1 c1 e1 r1 q
theorem EvT.e1 {b : Bool} (h : EvT K tt env S b S1) (q : pT b S1) : EvTE K tt env S pT := fun B H as σ c g Q k =>
  h B H as σ c g Q fun B1 H1 c1 e1 => k b B1 H1 S1 c1 e1 q
theorem EvN.e1 (h : EvN K te env S ds S1) (q : pN ds S1) : EvNE K te env S pN := fun B H as σ c g Q k =>
  h B H as σ c g Q fun p B1 H1 vs c1 e1 hp hb hl r1 => k p B1 H1 vs ds S1 c1 e1 hp hb hl r1 q
/-! ### expressions -/
theorem eae_nil (q : pA [] S) : EvAE K tNil env S pA := fun B H as σ c g Q k => k [] [] B H S c Evo.refl .nil q
theorem eae_cons (h : EvE K ta env S p1) (hr : ∀ x S1, p1 x S1 → EvAE K tA env S1 (fun xs T => pA (x :: xs) T)) : EvAE K (tCons ta tA) env S pA := fun B H as σ c g Q k =>
  h B H as σ c g _ fun v x B1 H1 S1 c1 e1 r1 hp => hr x S1 hp B1 H1 as σ c1 (g.mono e1.ex) _ fun vs xs B2 H2 S2 c2 e2 r2 hq => k _ (x :: xs) B2 H2 S2 c2 (e1.trans e2) (.cons (r1.mono e2.ex) r2) hq
theorem eae_cons1 (h : Ev K ta env S x S1) (hr : EvAE K tA env S1 (fun xs T => pA (x :: xs) T)) : EvAE K (tCons ta tA) env S pA := fun B H as σ c g Q k =>
  h B H as σ c g _ fun v B1 H1 c1 e1 r1 => hr B1 H1 as σ c1 (g.mono e1.ex) _ fun vs xs B2 H2 S2 c2 e2 r2 hq => k _ (x :: xs) B2 H2 S2 c2 (e1.trans e2) (.cons (r1.mono e2.ex) r2) hq
theorem eve_op {p2 : Sl → Sl → List Dat → Prop} (ha : EvE K ta env S p1) (hb : ∀ x S1, p1 x S1 → EvE K tb env S1 (p2 x)) (hr : ∀ x S1 y S2, p1 x S1 → p2 x y S2 → ∃ d, Op2 K r x y S2 d ∧ post (.d d) S2) : EvE K (tOp r ta tb) env S post := fun B H as σ c g Q k =>
  ha B H as σ c g _ fun v x B1 H1 S1 c1 e1 r1 hx => hb x S1 hx B1 H1 as σ c1 (g.mono e1.ex) _ fun w y B2 H2 S2 c2 e2 r2 hy => by
    obtain ⟨d, ho, hp⟩ := hr x S1 y S2 hx hy
    exact ho B2 H2 as v w c2 (r1.mono e2.ex) r2 _ fun u B3 H3 c3 e3 r3 => k u (.d d) B3 H3 S2 c3 ((e1.trans e2).trans e3) r3 hp
/-- the right one known -/
theorem eve_opL (ha : EvE K ta env S p1) (hb : ∀ x S1, p1 x S1 → ∃ y d, Ev K tb env S1 y S1 ∧ Op2 K r x y S1 d ∧ post (.d d) S1) : EvE K (tOp r ta tb) env S post := fun B H as σ c g Q k =>
  ha B H as σ c g _ fun v x B1 H1 S1 c1 e1 r1 hx => by
    obtain ⟨y, d, hb, ho, hp⟩ := hb x S1 hx
    exact hb B1 H1 as σ c1 (g.mono e1.ex) _ fun w B2 H2 c2 e2 r2 => ho B2 H2 as v w c2 (r1.mono e2.ex) r2 _ fun u B3 H3 c3 e3 r3 => k u (.d d) B3 H3 S1 c3 ((e1.trans e2).trans e3) r3 hp
/-- the left one known -/
theorem eve_opR (ha : Ev K ta env S x S1) (hb : EvE K tb env S1 p1) (ho : ∀ y S2, p1 y S2 → ∃ d, Op2 K r x y S2 d ∧ post (.d d) S2) : EvE K (tOp r ta tb) env S post := fun B H as σ c g Q k =>
  ha B H as σ c g _ fun v B1 H1 c1 e1 r1 => hb B1 H1 as σ c1 (g.mono e1.ex) _ fun w y B2 H2 S2 c2 e2 r2 hy => by
    obtain ⟨d, ho, hp⟩ := ho y S2 hy
    exact ho B2 H2 as v w c2 (r1.mono e2.ex) r2 _ fun u B3 H3 c3 e3 r3 => k u (.d d) B3 H3 S2 c3 ((e1.trans e2).trans e3) r3 hp
theorem eve_un {r : V → Hp → VK → Prop} (ha : EvE K ta env S p1) (hr : ∀ x S1, p1 x S1 → ∃ d, Op1 K r x S1 d ∧ post (.d d) S1) : EvE K (tUn r ta) env S post := fun B H as σ c g Q k =>
  ha B H as σ c g _ fun v x B1 H1 S1 c1 e1 r1 hx => by
    obtain ⟨d, ho, hp⟩ := hr x S1 hx
    exact ho B1 H1 as v c1 r1 _ fun u B3 H3 c3 e3 r3 => k u (.d d) B3 H3 S1 c3 (e1.trans e3) r3 hp
/-- f(..), f's result known by what holds of it -/
theorem eve_call {G : List Sl → List Dat → (Dat → List Dat → Prop) → Prop} (h : EvAE K tA env S pA) (hg : ∀ ss S1, pA ss S1 → ∃ po, G ss S1 po ∧ ∀ r T, po r T → post (.d r) T) : EvE K (tCall (SpE K G) [] E tA) env S post := fun B H as σ c g Q q =>
  h B H as σ c g _ fun vs ss B1 H1 S1 c1 e1 r1 hp => by
    obtain ⟨po, hg, hq⟩ := hg ss S1 hp
    exact ⟨B1, as, S1, ss, po, c1, by rw [List.append_nil]; exact r1, hg, fun v r B2 H2 S2 c2 e2 r2 hp => q v (.d r) B2 H2 S2 c2 (e1.trans e2) r2 (hq r S2 hp)⟩
/-- f(..), f's result told -/
theorem eve_callD {G : List Sl → List Dat → Dat → List Dat → Prop} (h : EvAE K tA env S pA) (hg : ∀ ss S1, pA ss S1 → ∃ d S2, G ss S1 d S2 ∧ post (.d d) S2) : EvE K (tCall (SpD K G) [] E tA) env S post := fun B H as σ c g Q q =>
  h B H as σ c g _ fun vs ss B1 H1 S1 c1 e1 r1 hp => by
    obtain ⟨d, S2, hg, hq⟩ := hg ss S1 hp
    exact ⟨B1, as, S1, ss, d, S2, c1, by rw [List.append_nil]; exact r1, hg, fun v B2 H2 c2 e2 r2 => q v (.d d) B2 H2 S2 c2 (e1.trans e2) r2 hq⟩
theorem eve_cb {r : List V → Hp → VK → Prop} (h : EvAE K tA env S pA) (hc : ∀ xs S1, pA xs S1 → ∃ d S2, CallD K r xs S1 d S2 ∧ post (.d d) S2) : EvE K (tCB r tA) env S post := fun B H as σ c g Q q =>
  h B H as σ c g _ fun vs xs B1 H1 S1 c1 e1 r1 hp => by
    obtain ⟨d, S2, hc, hq⟩ := hc xs S1 hp
    exact hc B1 H1 as vs c1 r1 Q fun u B2 H2 c2 e2 r2 => q u (.d d) B2 H2 S2 c2 (e1.trans e2) r2 hq
theorem eve_tup (h : EvAE K tA env S (fun xs T => ∃ ds, xs = ds.map Sl.d ∧ ds.length ≤ sizeLine ∧ post (.d (.tup ds)) T)) : EvE K (tTup tA) env S post := fun B H as σ c g Q q =>
  h B H as σ c g _ fun vs xs B1 H1 S1 c1 e1 r1 ⟨ds, ex, hl, hp⟩ => by
    subst ex
    exact ⟨by rw [r1.ds.length]; exact hl, fun p hn => q _ (.d (.tup ds)) (upd B1 p (.tup vs)) _ S1 (c1.new hn) (e1.trans (Evo.new c1 hn)) (.tup (.inl (.inl upd_same)) (r1.ds.mono (Evl.Ex.new (c1.Bnone hn)))) hp⟩
theorem ene_lst (h : EvAE K tA env S (fun xs T => ∃ ds, xs = ds.map Sl.d ∧ ds.length ≤ sizeLine ∧ pN ds T)) : EvNE K (tLst tA) env S pN := fun B H as σ c g Q q =>
  h B H as σ c g _ fun vs xs B1 H1 S1 c1 e1 r1 ⟨ds, ex, hl, hn⟩ => by
    subst ex
    exact ⟨by rw [r1.ds.length]; exact hl, fun p hp => evn_new c c1 e1 hp r1.ds fun p B' H' vs c2 e2 f2 b2 l2 r2 => q p B' H' vs ds S1 c2 e2 f2 b2 l2 r2 hn⟩
/-- a new list becomes known -/
theorem eve_N (h : EvNE K te env S (fun ds T => post (.d (.lst ds)) T)) : EvE K te env S post := fun B H as σ c g Q q =>
  h B H as σ c g _ fun p B1 H1 vs ds S1 c1 e1 hp hb hl r1 hq =>
    q _ (.d (.lst ds)) (upd B1 p (.lst vs)) H1 S1 (c1.know hl hb hp.1) ⟨e1.ex.trans (Evl.Ex.new hb), e1.fr, fun a o h nt => by rw [upd_ne (by rintro rfl; exact hp.2.no h nt)]; exact e1.gr a o h nt, e1.tp, e1.pr⟩ (.lst upd_same (r1.mono (Evl.Ex.new hb))) hq
theorem eve_if (h : EvTE K tt env S pT) (h1 : ∀ S1, pT true S1 → EvE K ta env S1 post) (h2 : ∀ S1, pT false S1 → EvE K tb env S1 post) : EvE K (tIf tt ta tb) env S post := fun B H as σ c g Q q =>
  h B H as σ c g _ fun b B1 H1 S1 c1 e1 hb => by
    cases b with
    | true => exact h1 S1 hb B1 H1 as σ c1 (g.mono e1.ex) Q fun v r B2 H2 S2 c2 e2 r2 => q v r B2 H2 S2 c2 (e1.trans e2) r2
    | false => exact h2 S1 hb B1 H1 as σ c1 (g.mono e1.ex) Q fun v r B2 H2 S2 c2 e2 r2 => q v r B2 H2 S2 c2 (e1.trans e2) r2
theorem eve_andV (h1 : EvE K ta env S p1) (hb : ∀ x S1, p1 x S1 → ∃ b, x = .d (.bl b) ∧ (b = false → post (.d (.bl false)) S1) ∧ (b = true → EvE K tb env S1 post)) : EvE K (tAndV ta tb) env S post := fun B H as σ c g Q q =>
  h1 B H as σ c g _ fun v x B1 H1 S1 c1 e1 r1 hx => by
    obtain ⟨b, rfl, h2, h3⟩ := hb x S1 hx
    cases r1
    refine ⟨b, rfl, ?_⟩
    cases b with
    | true => exact h3 rfl B1 H1 as σ c1 (g.mono e1.ex) Q fun v r B2 H2 S2 c2 e2 r2 => q v r B2 H2 S2 c2 (e1.trans e2) r2
    | false => exact q _ (.d (.bl false)) B1 H1 S1 c1 e1 (.bl false) (h2 rfl)
theorem eve_orV (h1 : EvE K ta env S p1) (hb : ∀ x S1, p1 x S1 → ∃ b, x = .d (.bl b) ∧ (b = true → post (.d (.bl true)) S1) ∧ (b = false → EvE K tb env S1 post)) : EvE K (tOrV ta tb) env S post := fun B H as σ c g Q q =>
  h1 B H as σ c g _ fun v x B1 H1 S1 c1 e1 r1 hx => by
    obtain ⟨b, rfl, h2, h3⟩ := hb x S1 hx
    cases r1
    refine ⟨b, rfl, ?_⟩
    cases b with
    | false => exact h3 rfl B1 H1 as σ c1 (g.mono e1.ex) Q fun v r B2 H2 S2 c2 e2 r2 => q v r B2 H2 S2 c2 (e1.trans e2) r2
    | true => exact q _ (.d (.bl true)) B1 H1 S1 c1 e1 (.bl true) (h2 rfl)
/-! ### tests -/
theorem ete_test (h : EvE K te env S (fun r T => ∃ b, r = .d (.bl b) ∧ pT b T)) : EvTE K (tTest te) env S pT := fun B H as σ c g Q q => h B H as σ c g _ fun v r B1 H1 S1 c1 e1 r1 ⟨b, e, hp⟩ => by
  subst e
  cases r1; exact ⟨b, rfl, q b B1 H1 S1 c1 e1 hp⟩
theorem ete_bl (h : EvE K ta env S (fun r T => ∃ b, r = .d (.bl b) ∧ pT b T)) : EvTE K (tTru K ta) env S pT := fun B H as σ c g Q q => h B H as σ c g _ fun v r B1 H1 S1 c1 e1 r1 ⟨b, e, hp⟩ => by
  subst e
  cases r1; exact ⟨b, rfl, q b B1 H1 S1 c1 e1 hp⟩
theorem ete_not (h : EvTE K tt env S (fun b T => pT (!b) T)) : EvTE K (tNot tt) env S pT := fun B H as σ c g Q q => h B H as σ c g _ fun b B1 H1 S1 c1 e1 hp => q (!b) B1 H1 S1 c1 e1 hp
theorem ete_and {pT' : Bool → List Dat → Prop} (h : EvTE K tt env S pT') (h1 : ∀ S1, pT' true S1 → EvTE K tu env S1 pT) (h2 : ∀ S1, pT' false S1 → pT false S1) : EvTE K (tAnd tt tu) env S pT := fun B H as σ c g Q q =>
  h B H as σ c g _ fun b B1 H1 S1 c1 e1 hb => by
    cases b with
    | true => exact h1 S1 hb B1 H1 as σ c1 (g.mono e1.ex) Q fun b B2 H2 S2 c2 e2 => q b B2 H2 S2 c2 (e1.trans e2)
    | false => exact q false B1 H1 S1 c1 e1 (h2 S1 hb)
theorem ete_or {pT' : Bool → List Dat → Prop} (h : EvTE K tt env S pT') (h1 : ∀ S1, pT' false S1 → EvTE K tu env S1 pT) (h2 : ∀ S1, pT' true S1 → pT true S1) : EvTE K (tOr tt tu) env S pT := fun B H as σ c g Q q =>
  h B H as σ c g _ fun b B1 H1 S1 c1 e1 hb => by
    cases b with
    | false => exact h1 S1 hb B1 H1 as σ c1 (g.mono e1.ex) Q fun b B2 H2 S2 c2 e2 => q b B2 H2 S2 c2 (e1.trans e2)
    | true => exact q true B1 H1 S1 c1 e1 (h2 S1 hb)
/-! ### what is walked -/
theorem ite_range {pI : List Dat → (List Addr → List Addr → List Dat → Prop) → List Dat → Prop} (h : EvAE K tA env S (fun xs T => ∃ m : Nat, xs = [.d (.int m)] ∧ m ≤ 1000 ∧ pI ((List.range m).map fun i => Dat.int (0 + (i : Nat))) G0 T)) : IterE K (iRng1 tA) env S pI := fun B H as σ c g R q => h B H as σ c g _ fun vs xs B1 H1 S1 c1 e1 r1 ⟨m, ex, hm, hp⟩ => by
  subst ex
  cases r1 with
  | cons r1 rr =>
    cases rr; cases r1
    refine ⟨(m : Int), rfl, by omega, by omega, q _ B1 H1 _ G0 S1 c1 e1 hp ?_⟩
    rw [← rng_map]
    exact walk_rng
theorem ite_seq {pI : List Dat → (List Addr → List Addr → List Dat → Prop) → List Dat → Prop} (h : EvE K te env S (fun r T => ∃ ds, (r = .d (.lst ds) ∨ r = .d (.tup ds)) ∧ pI ds G0 T)) : IterE K (iSeq K te) env S pI := fun B H as σ c g R q => h B H as σ c g _ fun v r B1 H1 S1 c1 e1 r1 ⟨ds, er, hp⟩ => by
  rcases er with rfl | rfl
  · cases r1 with
    | lst h r => exact ⟨_, true, rfl, ⟨_, Evl.sq_of (c1.ex _ _ h)⟩, q _ B1 H1 ds G0 S1 c1 e1 hp (walk_known (k := true) (Evl.sq_of h) r _)⟩
  · cases r1 with
    | tup h r => exact ⟨_, false, rfl, ⟨_, Evl.ex_t c1.ex h⟩, q _ B1 H1 ds G0 S1 c1 e1 hp (walk_known (k := false) h r _)⟩
/-- [e for g in wi if tt] -/
theorem ene_lc {wi : TI} {g : TG} {vs : List Nat} {pI : List Dat → (List Addr → List Addr → List Dat → Prop) → List Dat → Prop} (hw : IterE K wi env S pI) (Inv : List Dat → List Dat → Nat → List Dat → List Dat → Prop)
    (hI : ∀ ds G S1, pI ds G S1 → ds.length ≤ sizeLine ∧ Inv ds S1 0 [] S1 ∧ (∀ i acc S', Inv ds S1 i acc S' → ∀ as : List Addr, as.length = S1.length → as.length = S'.length → G as as S') ∧
      (∀ i d acc S', ds[i]? = some d → Inv ds S1 i acc S' → ∃ is f pT, TgD K g d is f ∧ (∀ i ∈ is, i ∈ vs) ∧ EvTE K tt (f (wipeE env vs)) S' pT ∧
        (∀ S2, pT true S2 → EvE K te (f (wipeE env vs)) S2 (fun r T => ∃ d, r = .d d ∧ Inv ds S1 (i + 1) (acc ++ [d]) T)) ∧ (∀ S2, pT false S2 → Inv ds S1 (i + 1) acc S2)) ∧
      (∀ acc S2, Inv ds S1 ds.length acc S2 → pN acc S2)) : EvNE K (tLc wi g tt te vs) env S pN := fun B H as σ c g0 Q q =>
  hw B H as σ c g0 _ fun J B1 H1 ds G S1 c1 e1 hpI w Dl hDl => by
    obtain ⟨hz, h0, hG, hs, hd⟩ := hI ds G S1 hpI
    have hD0 : Nn H Dl := e1.old hDl
    have c1' : Ok K B1 (upd H1 Dl (.lst [])) as S1 := c1.other (c1.Bnone hDl) (c1.fresh hDl)
    have e1' : Evo B H as B1 (upd H1 Dl (.lst [])) := e1.other hD0
    refine ⟨fun i mm H' => mm = ds.length - i ∧ i ≤ ds.length ∧ ∃ S' B' acc, Ok K B' H' as S' ∧ Evo B H as B' H' ∧ Ex B1 B' ∧ Acc K Dl B' H' as acc ∧ acc.length ≤ i ∧ Inv ds S1 i acc S', ⟨_, rfl, Nat.zero_le _, S1, B1, [], c1', e1', Evl.Ex.refl _, ⟨c1.Bnone hDl, c1.fresh hDl, [], upd_same, .nil⟩, Nat.zero_le _, h0⟩, ?_⟩
    rintro i mm H' ⟨rfl, hi, S', B', acc, c', e', ex', hacc, hal, hinv⟩
    have hg := hG i acc S' hinv as c1.len c'.len
    by_cases hlt : i < ds.length
    · refine .inr ⟨w.go B' H' as S' i ex' c' hg hlt, fun H2 => ∃ S2 B2 acc2, Ok K B2 H2 as S2 ∧ Evo B H as B2 H2 ∧ Ex B1 B2 ∧ Acc K Dl B2 H2 as acc2 ∧ acc2.length ≤ i + 1 ∧ Inv ds S1 (i + 1) acc2 S2, fun H2 hN => ⟨ds.length - (i + 1), by omega, rfl, hlt, hN⟩, fun x H2 hy => ?_⟩
      obtain ⟨B2, d, c2, e2, hd2, r2⟩ := w.yld B' H' as S' i x H2 ex' c' hg hlt hy
      obtain ⟨is, f, pT, tg, his, htt, ht, hf⟩ := hs i d acc S' hd2 hinv
      have gw : EnvR K B2 as (L2.wipe σ vs) (wipeE env vs) := ((g0.mono e1.ex).wipe vs).mono (ex'.trans e2.ex)
      refine tg B2 H2 as S' _ _ x c2 gw r2 _ fun σ3 g3 hw3 => ⟨?_, ?_⟩
      · rw [hw3 vs his]
        have : ∀ ws : List Nat, (∀ j ∈ ws, j ∈ vs) → L2.wipe (L2.wipe σ vs) ws = L2.wipe σ vs := by
          intro ws
          induction ws with
          | nil => intro _; rfl
          | cons j ws ih =>
            intro h
            show (L2.wipe (L2.wipe σ vs) ws).set j none = L2.wipe σ vs
            have e0 : L2.wipe (L2.wipe σ vs) ws = L2.wipe σ vs := ih fun k hk => h k (List.mem_cons_of_mem _ hk)
            rw [e0]
            have hj := h j List.mem_cons_self
            have key : ∀ (us : List Nat), j ∈ us → (L2.wipe σ us).set j none = L2.wipe σ us := by
              intro us
              induction us with
              | nil => intro h; cases h
              | cons k us ih =>
                intro hk
                unfold L2.wipe
                by_cases hj : j = k
                · subst hj; rw [List.set_set]
                · rw [List.set_comm _ _ (fun z => hj z.symm)]
                  rw [ih ((List.mem_cons.mp hk).resolve_left hj)]
            exact key vs hj
        exact this vs fun _ h => h
      · refine htt B2 H2 as σ3 c2 g3 _ fun b B3 H3 S2 c3 e3 hb => ?_
        have ac3 := (hacc.step e2).step e3
        have e03 := (e'.trans e2).trans e3
        have ex3 := (ex'.trans e2.ex).trans e3.ex
        cases b with
        | false => exact ⟨S2, B3, acc, c3, e03, ex3, ac3, by omega, hf S2 hb⟩
        | true =>
          show te σ3 H3 _
          refine ht S2 hb B3 H3 as σ3 c3 (g3.mono e3.ex) _ fun v r B4 H4 S3 c4 e4 r4 hr4 => ?_
          obtain ⟨d, er, hinv'⟩ := hr4
          subst er
          have ac4 := ac3.step e4
          obtain ⟨ws, hw4, hl4, ac5⟩ := ac4.snoc r4
          refine ⟨ws, hw4, by rw [hl4]; omega, S3, B4, acc ++ [d], c4.other ac4.nb ac4.na, (e03.trans e4).other hD0, ex3.trans e4.ex, ac5, by rw [List.length_append]; simp; omega, hinv'⟩
    · have e : i = ds.length := by omega
      subst e
      have hpn := hd acc S' hinv
      obtain ⟨ws, hw4, hr4⟩ := hacc.at_
      exact .inl ⟨w.stop B' H' as S' ex' c' hg, q Dl B' H' ws acc S' c' e' ⟨hacc.na, hD0⟩ hacc.nb hw4 hr4 hpn⟩
/-! ### statements -/
theorem sp_setCE (h : EvNE K te env S pN) (q : ∀ ds S1, pN ds S1 → SP K n u (env.set i (some (.c S1.length))) (S1 ++ [.lst ds]) P) : SP K n (tSeq (tAsg te (gName i)) u) env S P := fun B0 H0 as0 Bk B H as σ hl f c g D m =>
  h B H as σ c g _ fun p B1 H1 vs ds S1 c1 e1 hp hb h1 r1 hn => by
    have hpa := hp.1
    refine q ds S1 hn B0 H0 as0 Bk B1 H1 (as ++ [p]) _ hl ((f.step e1).push (f.evo.oldN hp.2)) (c1.push hb hpa (.ofL h1 r1)) (((g.mono e1.ex).grow).set i ?_) D m
    exact ⟨p, by rw [← c1.len]; simp, rfl⟩
theorem sp_parE (h : EvAE K tA env S pA) (q : ∀ rs S1, pA rs S1 → ∃ x y, rs = [x, y] ∧ SP K n u ((env.set i (some x)).set j (some y)) S1 P) : SP K n (tSeq (tPar i j tA) u) env S P := fun B0 H0 as0 Bk B H as σ hl f c g D m =>
  h B H as σ c g _ fun vs rs B1 H1 S1 c1 e1 r1 hp => by
    obtain ⟨x, y, rfl, k⟩ := q rs S1 hp
    cases r1 with
    | cons r1 rr =>
      cases rr with
      | cons r2 rr =>
        cases rr
        exact ⟨_, _, rfl, k B0 H0 as0 Bk B1 H1 as _ hl (f.step e1) c1 (((g.mono e1.ex).set i r1).set j r2) D m⟩
theorem sp_dropE (h : EvE K te env S post) (q : ∀ r S1, post r S1 → SP K n u env S1 P) : SP K n (tSeq (tDrop te) u) env S P := fun B0 H0 as0 Bk B H as σ hl f c g D m =>
  h B H as σ c g _ fun v r B1 H1 S1 c1 e1 r1 hp => q r S1 hp B0 H0 as0 Bk B1 H1 as _ hl (f.step e1) c1 (g.mono e1.ex) D m
theorem sp_ifE (h : EvTE K tt env S pT) (h1 : ∀ S1, pT true S1 → SP K n t env S1 P) (h2 : ∀ S1, pT false S1 → SP K n u env S1 P) : SP K n (tIfS tt t u) env S P := fun B0 H0 as0 Bk B H as σ hl f c g D m =>
  h B H as σ c g _ fun b B1 H1 S1 c1 e1 hb => by
    cases b with
    | true => exact h1 S1 hb B0 H0 as0 Bk B1 H1 as _ hl (f.step e1) c1 (g.mono e1.ex) D m
    | false => exact h2 S1 hb B0 H0 as0 Bk B1 H1 as _ hl (f.step e1) c1 (g.mono e1.ex) D m
theorem sp_ifqE {v : TS} (h : EvTE K tt env S pT) (h1 : ∀ S1, pT true S1 → SP K n (tSeq t v) env S1 P) (h2 : ∀ S1, pT false S1 → SP K n (tSeq u v) env S1 P) : SP K n (tSeq (tIfS tt t u) v) env S P := fun B0 H0 as0 Bk B H as σ hl f c g D m =>
  h B H as σ c g _ fun b B1 H1 S1 c1 e1 hb => by
    cases b with
    | true => exact h1 S1 hb B0 H0 as0 Bk B1 H1 as _ hl (f.step e1) c1 (g.mono e1.ex) D m
    | false => exact h2 S1 hb B0 H0 as0 Bk B1 H1 as _ hl (f.step e1) c1 (g.mono e1.ex) D m
/-- xs[i] = e, i by what holds of it -/
theorem sp_setitemE (h : Ev K te env S (.d d) S1) (ho : Ev K to env S1 (.c k) S2) (hi : EvE K ti env S2 post) (q : ∀ r S3, post r S3 → ∃ (iv : Int) (j : Nat) (ds : List Dat), r = .d (.int iv) ∧ S3[k]? = some (.lst ds) ∧ ixN ds.length iv = some j ∧ SP K n u env (S3.set k (.lst (ds.set j d))) P) :
    SP K n (tSeq (tAsg te (gSub to ti rSetL)) u) env S P := fun B0 H0 as0 Bk B H as σ hl f c g D m =>
  h B H as σ c g _ fun v B1 H1 c1 e1 r1 => ho B1 H1 as σ c1 (g.mono e1.ex) _ fun w B2 H2 c2 e2 r2 => hi B2 H2 as σ c2 (g.mono (e1.trans e2).ex) _ fun w3 r3 B3 H3 S3 c3 e3 rr3 hp3 => by
    obtain ⟨iv, j, ds, rfl, hs, hj, k3⟩ := q r3 S3 hp3
    obtain ⟨p, hp, rfl⟩ := r2
    cases rr3
    obtain ⟨vs, hv, rv⟩ := (c3.cells k p _ hp hs).2.lst
    have e03 := ((e1.trans e2).trans e3).trans (Evo.setc (o := .lst (vs.set j v)) (List.mem_of_getElem? hp) hv (fun _ z => nomatch z))
    exact ⟨p, vs, iv, j, rfl, rfl, hv, by rw [rv.length]; exact hj, k3 B0 H0 as0 Bk B3 _ as σ hl (f.step e03) (c3.setc hp (show CellO K B3 (.lst _) (.lst _) from Reps.set j (Rep.mono (e2.trans e3).ex r1) rv)) (g.mono e03.ex) D m⟩
theorem sp_forE {wi : TI} {g : TG} {tb : TS} {pI : List Dat → (List Addr → List Addr → List Dat → Prop) → List Dat → Prop} (hw : IterE K wi env S pI)
    (hI : ∀ ds G S1, pI ds G S1 → ∃ Inv : Nat → Env1 → List Dat → Prop, Inv 0 env S1 ∧ (∀ i env' S' as as2, Inv i env' S' → as.length = S1.length → as2.length = S'.length → as2.take n = as.take n → G as as2 S') ∧
      (∀ i d env' S', ds[i]? = some d → Inv i env' S' → ∃ is f, TgD K g d is f ∧ SP K n tb (f env') S' { P with nx := Inv (i + 1), ct := Inv (i + 1), bk := P.nx }) ∧
      (∀ env' S', Inv ds.length env' S' → P.nx env' S')) : SP K n (tFor wi g tb) env S P := fun B0 H0 as0 Bk B H as σ hl f0 c g0 D m =>
  hw B H as σ c g0 _ fun J B1 H1 ds G S1 c1 e1 hpI w => by
    obtain ⟨Inv, h0, hG, hs, hd⟩ := hI ds G S1 hpI
    subst hl
    have f1 := f0.step e1
    refine ⟨fun i mm σ' H' => mm = ds.length - i ∧ i ≤ ds.length ∧ ∃ env' S' B' as', Fr B0 H0 as0 B1 B' H' as' ∧ Ok K B' H' as' S' ∧ EnvR K B' as' σ' env' ∧ Inv i env' S', ⟨_, rfl, Nat.zero_le _, env, S1, B1, as, ⟨Evl.Ex.refl _, f1.base, f1.evo, f1.loc⟩, c1, g0.mono e1.ex, h0⟩, ?_⟩
    rintro i mm σ' H' ⟨rfl, hi, env', S', B', as', f', c', g', hinv⟩
    have ex' := f'.kn
    have hg := hG i env' S' as as' hinv c1.len c'.len (by rw [f'.base, f1.base])
    by_cases hlt : i < ds.length
    · refine .inr ⟨w.go B' H' as' S' i ex' c' hg hlt, fun σ2 H2 => ∃ env2 S2 B2 as2, Fr B0 H0 as0 B1 B2 H2 as2 ∧ Ok K B2 H2 as2 S2 ∧ EnvR K B2 as2 σ2 env2 ∧ Inv (i + 1) env2 S2, fun σ2 H2 hN => ⟨ds.length - (i + 1), by omega, rfl, hlt, hN⟩, fun x H2 hy => ?_⟩
      obtain ⟨B2, d, c2, e2, hd2, r2⟩ := w.yld B' H' as' S' i x H2 ex' c' hg hlt hy
      obtain ⟨is, f, tg, hbody⟩ := hs i d env' S' hd2 hinv
      refine tg B2 H2 as' S' σ' env' x c2 (g'.mono e2.ex) r2 _ fun σ3 g3 _ => ?_
      have f2 := f'.step e2
      refine hbody B0 H0 as0 B1 B2 H2 as' σ3 rfl f2 c2 g3 _ ⟨?_, m.rt, ?_, ?_, m.ok⟩
      · exact fun env4 S4 B4 H4 as4 σ4 f4 c4 g4 p4 => ⟨env4, S4, B4, as4, f4, c4, g4, p4⟩
      · exact fun env4 S4 B4 H4 as4 σ4 f4 c4 g4 p4 => m.nx env4 S4 B4 H4 as4 σ4 ⟨f1.kn.trans f4.kn, f4.base, f4.evo, f4.loc⟩ c4 g4 p4
      · exact fun env4 S4 B4 H4 as4 σ4 f4 c4 g4 p4 => ⟨env4, S4, B4, as4, f4, c4, g4, p4⟩
    · have e : i = ds.length := by omega
      subst e
      exact .inl ⟨w.stop B' H' as' S' ex' c' hg, m.nx env' S' B' H' as' σ' ⟨f1.kn.trans f'.kn, f'.base, f'.evo, f'.loc⟩ c' g' (hd env' S' hinv)⟩
end
end RW

set_option Elab.async false
set_option linter.all false
set_option maxRecDepth 100000
set_option maxHeartbeats 4000000
namespace RW
open PySem PySem.Spec PyProof.Rows L2
open Evl (Ex)
/-! ### keys without doubles, sorted -/
def keysF (rs : List (List Int)) : List (List Int) := rs.foldl insK []
theorem keysF_add (rs : List (List Int)) (r : List Int) : keysF (rs ++ [r]) = insK (keysF rs) r := by unfold keysF; rw [List.foldl_append]; rfl
theorem insK_mem {ks : List (List Int)} {k x : List Int} : x ∈ insK ks k ↔ x ∈ ks ∨ x = k := by
  unfold insK
  split
  · next h => exact ⟨.inl, fun z => z.elim id fun e => e ▸ h⟩
  · simp
theorem insK_nd {ks : List (List Int)} {k : List Int} (h : ks.Nodup) : (insK ks k).Nodup := by
  unfold insK
  split
  · exact h
  · next hk => exact List.nodup_append.mpr ⟨h, by simp, fun a ha b hb => by rw [List.mem_singleton.mp hb]; rintro rfl; exact hk ha⟩
theorem insK_len {ks : List (List Int)} {k : List Int} : (insK ks k).length ≤ ks.length + 1 := by
  unfold insK; split <;> simp
theorem keys_ok : ∀ (rs ks : List (List Int)), ks.Nodup → (rs.foldl insK ks).Nodup ∧ (∀ x, x ∈ rs.foldl insK ks ↔ x ∈ ks ∨ x ∈ rs) ∧ (rs.foldl insK ks).length ≤ ks.length + rs.length
  | [], ks, h => ⟨h, fun x => by simp, by simp⟩
  | r :: rs, ks, h => by
    obtain ⟨h1, h2, h3⟩ := keys_ok rs (insK ks r) (insK_nd h)
    refine ⟨h1, fun x => ?_, ?_⟩
    · rw [List.foldl_cons, h2, insK_mem, List.mem_cons, or_assoc]
    · rw [List.foldl_cons, List.length_cons]
      have := insK_len (ks := ks) (k := r)
      omega
def sortF (ks : List (List Int)) : List (List Int) := ks.mergeSort fun a b => decide (RwS.rk ks a ≤ RwS.rk ks b)
theorem sortF_perm (ks : List (List Int)) : (sortF ks).Perm ks := List.mergeSort_perm _ _
theorem sortF_pw {ks : List (List Int)} {n : Nat} (hl : ∀ r ∈ ks, r.length = n) : (sortF ks).Pairwise fun x y => RwS.lx y x = false := by
  have h := List.pairwise_mergeSort (le := fun a b => decide (RwS.rk ks a ≤ RwS.rk ks b)) (fun a b c h1 h2 => by simp only [decide_eq_true_eq] at *; omega) (fun a b => by simp only [Bool.or_eq_true, decide_eq_true_eq]; omega) ks
  refine List.Pairwise.imp_of_mem (fun {x y} hx hy hxy => ?_) h
  have hx := (sortF_perm ks).mem_iff.mp hx
  have hy := (sortF_perm ks).mem_iff.mp hy
  have := RwS.rk_lt hy (y := x) (by rw [hl _ hx, hl _ hy])
  cases e : RwS.lx y x with
  | false => rfl
  | true =>
    have := this.mp e
    have hxy : RwS.rk ks x ≤ RwS.rk ks y := of_decide_eq_true hxy
    omega
theorem sortF_uniq {ks : List (List Int)} {n : Nat} (hl : ∀ r ∈ ks, r.length = n) (rs : List (List Int)) (hp : rs.Perm ks) (hw : rs.Pairwise fun x y => RwS.lx y x = false) : rs = sortF ks := by
  refine List.Perm.eq_of_pairwise (le := fun x y => RwS.lx y x = false) (fun a b ha hb h1 h2 => ?_) hw (sortF_pw hl) (hp.trans (sortF_perm ks).symm)
  have la := hl _ (hp.mem_iff.mp ha)
  have lb := hl _ ((sortF_perm ks).mem_iff.mp hb)
  rcases RwS.lx_tri (x := a) (y := b) (by omega) with h | h | h
  · rw [h] at h2; cases h2
  · exact h
  · rw [h] at h1; cases h1
theorem sortF_asc {ks : List (List Int)} {n : Nat} (nd : ks.Nodup) (hl : ∀ r ∈ ks, r.length = n) : (sortF ks).Pairwise fun x y => RwS.lx x y = true := by
  have hn : (sortF ks).Nodup := (sortF_perm _).nodup_iff.mpr nd
  refine List.Pairwise.imp_of_mem (fun {x y} hx hy hxy => ?_) ((sortF_pw hl).and hn)
  have hx := (sortF_perm ks).mem_iff.mp hx
  have hy := (sortF_perm ks).mem_iff.mp hy
  rcases RwS.lx_tri (x := x) (y := y) (by rw [hl _ hx, hl _ hy]) with h | h | h
  · exact h
  · exact absurd h hxy.2
  · rw [h] at hxy; cases hxy.1
/-! ### what is drawn from -/
abbrev Vt := Int × Int × Int
def vatD (v : Vt) : Dat := .lst [.int v.1, .int v.2.1, .int v.2.2]
theorem set_get {S : List Dat} {k : Nat} {d e : Dat} (h : S[k]? = some d) : (S.set k e)[k]? = some e := List.getElem?_set_self (List.getElem?_eq_some_iff.mp h).1
theorem set_id {S : List Dat} {k : Nat} {d : Dat} (h : S[k]? = some d) : S.set k d = S := by
  obtain ⟨hl, e⟩ := List.getElem?_eq_some_iff.mp h
  rw [← e]; exact List.set_getElem_self hl
section
variable {S : List Dat} {k : Nat} {x x' y y' : Dat}
theorem gk (h : k < S.length) : (S.set k x ++ [y])[k]? = some x := by
  rw [List.getElem?_append_left (by simpa using h), List.getElem?_set_self h]
theorem gn : (S.set k x ++ [y])[S.length]? = some y := by
  rw [List.getElem?_append_right (by simp)]
  simp
theorem sk (h : k < S.length) : (S.set k x ++ [y]).set k x' = S.set k x' ++ [y] := by
  rw [List.set_append_left _ _ (by simpa using h), List.set_set]
theorem sn : (S.set k x ++ [y]).set S.length y' = S.set k x ++ [y'] := by
  rw [List.set_append_right _ _ (by simp)]
  simp
end
theorem atI_n {α : Type} {xs : List α} {p : Nat} (h : p < xs.length) : atI xs (p : Int) = some xs[p] := by
  unfold atI
  rw [ixN_of h]
  exact List.getElem?_eq_getElem h
theorem op2_ixS {K : PySem.W.Frag} {S : List Dat} {ns : List Int} {i : Int} {u : Int} (h : atI (ns.map V.int) i = some (V.int u)) : Op2 K (rIx K) (.d (.scr ns)) (.d (.int i)) S (.int u) := fun B H as v w c h1 h2 Q q => by
  cases h2
  cases h1 with
  | scr h1 => exact .inl ⟨_, _, i, _, rfl, rfl, Evl.ex_l c.ex h1, h, q _ B H c Evo.refl (.int u)⟩
theorem raw_set {K : PySem.W.Frag} {te : TE} {env : Env1} {S S1 : List Dat} {x : Sl} {i : Nat} {u : TS} {D : Ends} {B H : Hp} {as : List Addr} {σ : L2.St} (h : Ev K te env S x S1) (c : Ok K B H as S) (g : EnvR K B as σ env)
    (q : ∀ B1 H1 v, Ok K B1 H1 as S1 → Evo B H as B1 H1 → EnvR K B1 as (σ.set i (some v)) (env.set i (some x)) → u D (σ.set i (some v)) H1) : tSeq (tAsg te (gName i)) u D σ H :=
  h B H as σ c g _ fun v B1 H1 c1 e1 r1 => q B1 H1 v c1 e1 ((g.mono e1.ex).set i r1)
theorem raw_retN {K : PySem.W.Frag} {te : TE} {env : Env1} {S S1 ds : List Dat} {D : Ends} {B H : Hp} {as : List Addr} {σ : L2.St} (h : EvN K te env S ds S1) (c : Ok K B H as S) (g : EnvR K B as σ env)
    (q : ∀ p B' H' vs, Ok K B' H' as S1 → Evo B H as B' H' → Fresh H as p → B' p = none → H' p = some (.lst vs) → Reps K B' vs ds → D.rt (.ref p) H') : tRet te D σ H := h B H as σ c g _ q
/-- a drawn number, and what follows -/
def gDraw (ss : List Sl) (S : List Dat) (post : Dat → List Dat → Prop) : Prop := ∃ (k : Nat) (v : Vt) (t : Int), ss = [.c k, .d (.int t)] ∧ S[k]? = some (vatD v) ∧ 0 < t ∧ t < 2 ^ 100 ∧ post = fun r T => ∃ i v', r = .int i ∧ 0 ≤ i ∧ i < t ∧ T = S.set k (vatD v')
/-- one of several, drawn -/
def gPick (ss : List Sl) (S : List Dat) (post : Dat → List Dat → Prop) : Prop := ∃ (k : Nat) (v : Vt) (d : Dat) (ds : List Dat), ss = [.c k, .d d] ∧ (d = .lst ds ∨ d = .tup ds) ∧ S[k]? = some (vatD v) ∧ ds ≠ [] ∧ ds.length ≤ 100000 ∧ post = fun r T => r ∈ ds ∧ ∃ v', T = S.set k (vatD v')
def gVat (ss : List Sl) (S : List Dat) (r : List Dat) (S' : List Dat) (vatF : List Int → Nat → Vt) : Prop := ∃ (ns : List Int) (i : Nat), ss = [.d (.scr ns), .d (.int i)] ∧ r = [.int (vatF ns i).1, .int (vatF ns i).2.1, .int (vatF ns i).2.2] ∧ S' = S
section
variable {K : PySem.W.Frag} {tA : TA} {env : Env1} {S S1 : List Dat} {ss : List Sl} {post : Sl → List Dat → Prop} {E : XK}
/-- f(..), the arguments told, the result by what holds of it -/
theorem eve_callA {G : List Sl → List Dat → (Dat → List Dat → Prop) → Prop} {po : Dat → List Dat → Prop} (h : EvA K tA env S ss S1) (hg : G ss S1 po) (q : ∀ r T, po r T → post (.d r) T) : EvE K (tCall (SpE K G) [] E tA) env S post :=
  eve_call (EvA.ofEv h) fun ss' S1' ⟨e1, e2⟩ => ⟨po, by rw [e1, e2]; exact hg, q⟩
theorem eve_callDA {G : List Sl → List Dat → Dat → List Dat → Prop} {d : Dat} {S2 : List Dat} (h : EvA K tA env S ss S1) (hg : G ss S1 d S2) (q : post (.d d) S2) : EvE K (tCall (SpD K G) [] E tA) env S post := (ev_call h hg).e1 q
end
section
variable {K : PySem.W.Frag} {n : Nat} {te to ti : TE} {tA : TA} {env : Env1} {S S1 S2 S3 : List Dat} {d : Dat} {P : Post} {k i : Nat} {u : TS}
theorem IterE.imp {wi : TI} {p q : List Dat → (List Addr → List Addr → List Dat → Prop) → List Dat → Prop} (h : IterE K wi env S p) (hq : ∀ ds G T, p ds G T → q ds G T) : IterE K wi env S q := fun B H as σ c g R kk =>
  h B H as σ c g R fun J B1 H1 ds G S1 c1 e1 hp w => kk J B1 H1 ds G S1 c1 e1 (hq ds G S1 hp) w
/-- a comprehension whose elements are drawn one after another -/
theorem ene_vat {α : Type} (F : α → Dat) (p : α → Prop) {pI : List Dat → Prop} {wi : TI} {g : TG} {vs is : List Nat} {f : Dat → Env1 → Env1}
    (hw : IterE K wi env S (fun ds G T => pI ds ∧ G = G0 ∧ ∃ v, T = S.set k (vatD v))) (hl : ∀ ds, pI ds → ds.length ≤ sizeLine)
    (hs : ∀ ds d v, pI ds → d ∈ ds → TgD K g d is (f d) ∧ (∀ i ∈ is, i ∈ vs) ∧ EvE K te (f d (wipeE env vs)) (S.set k (vatD v)) (fun r T => ∃ a v', r = .d (F a) ∧ p a ∧ T = S.set k (vatD v'))) :
    EvNE K (tLc wi g tYes te vs) env S (fun rs T => ∃ (ds : List Dat) (as : List α) (v' : Vt), pI ds ∧ rs = as.map F ∧ as.length = ds.length ∧ (∀ a ∈ as, p a) ∧ T = S.set k (vatD v')) := by
  refine ene_lc hw (fun ds S1 i acc S' => ∃ (as : List α) (v' : Vt), acc = as.map F ∧ as.length = i ∧ (∀ a ∈ as, p a) ∧ S' = S.set k (vatD v')) fun ds G S1 ⟨hp, hG, v0, hv0⟩ => ⟨hl ds hp, ⟨[], v0, rfl, rfl, fun a h => (List.not_mem_nil h).elim, hv0⟩, fun _ _ _ _ _ _ _ => by rw [hG]; trivial, fun i d acc S' hd ⟨as, v, e1, e2, e3, e4⟩ => ?_, fun acc S2 ⟨as, v, e1, e2, e3, e4⟩ => ⟨ds, as, v, hp, e1, e2, e3, e4⟩⟩
  obtain ⟨tg, his, he⟩ := hs ds d v hp (List.mem_of_getElem? hd)
  subst e4
  refine ⟨is, f d, fun b T => b = true ∧ T = S.set k (vatD v), tg, his, et_yes.ofEv, fun S2 h => ?_, fun S2 h => by cases h.1⟩
  rw [h.2]
  refine he.imp fun r T ⟨a, v', h1, h2, h3⟩ => ⟨F a, h1, as ++ [a], v', by rw [e1, List.map_append]; rfl, by rw [List.length_append, e2]; rfl, fun b hb => ?_, h3⟩
  rcases List.mem_append.mp hb with hb | hb
  · exact e3 b hb
  · rw [List.mem_singleton.mp hb]; exact h2
/-- d[tuple(xs)] = e, xs a new list of numbers, known by what holds of it -/
theorem sp_stD1E {pN : List Dat → List Dat → Prop} (h : Ev K te env S (.d d) S1) (ho : Ev K to env S1 (.c k) S2) (hx : EvNE K ti env S2 pN) (hq : ∀ ds S3, pN ds S3 → ∃ (ns : List Int) (ks : List (List Int)), ds = ns.map Dat.int ∧ S3[k]? = some (.dic ks) ∧ ks.length < sizeLine ∧ P.nx env (S3.set k (.dic (insK ks ns)))) :
    SP K n (tAsg te (gSub to (tCB (rTupD K) (tCons ti tNil)) rSetD)) env S P := fun B0 H0 as0 Bk B H as σ hl0 f0 c g D m =>
  h B H as σ c g _ fun v B1 H1 c1 e1 r1 => ho B1 H1 as σ c1 (g.mono e1.ex) _ fun w B2 H2 c2 e2 r2 => hx B2 H2 as σ c2 (g.mono (e1.trans e2).ex) _ fun l B3 H3 vs ds S3 c3 e3 hl2 hb3 hl3 r3 hp3 => by
    obtain ⟨ns, ks, rfl, hs, hl, hq⟩ := hq ds S3 hp3
    obtain ⟨p, hp, rfl⟩ := r2
    have ei := r3.ints
    subst ei
    refine ⟨l, _, rfl, .inl ⟨Evl.sq_of hl3, fun tp htp => ?_⟩⟩
    have c4 := c3.new (o := .tup (ns.map V.int)) htp
    have e4 := Evo.new (o := .tup (ns.map V.int)) c3 htp
    obtain ⟨kvs, hkv, hks⟩ := (c4.cells k p _ hp hs).2.dic
    have e05 := (((e1.trans e2).trans e3).trans e4).trans (Evo.setc (o := .dT (putK kvs (ns.map Sum.inl) v)) (List.mem_of_getElem? hp) hkv (fun _ z => nomatch z))
    refine ⟨p, _, rfl, .inr ⟨kvs, ns.map Sum.inl, tp, hkv, rfl, by rw [key_ints]; exact upd_same, ?_, rfl⟩, ?_⟩
    · have := congrArg List.length hks
      rw [List.length_map, List.length_map] at this
      omega
    · exact m.nx _ _ _ _ as σ (f0.step e05) (c4.setc hp (show CellO K _ (.dT _) (.dic _) from putK_keys hks)) (g.mono e05.ex) hq
end
theorem call_isiK {X : Cx} (K : PySem.W.Frag) (hK : X.K = K := by rfl) : CallR X (.builtin "isinstance") (rIsi K) := by
  subst hK
  exact call_isi
section
variable {K : PySem.W.Frag} {n : Nat} {te to : TE} {env : Env1} {S S1 : List Dat} {P : Post} {k i : Nat} {post post' : Sl → List Dat → Prop} {pN : List Dat → List Dat → Prop}
/-- xs.append(e), e by what holds of it -/
theorem ev_appendE (ho : Ev K to env S (.c k) S1) (h : EvE K te env S1 post) (h1 : ∃ es, S1[k]? = some (.lst es)) (q : ∀ r T, post r T → ∃ d ds, r = .d d ∧ T[k]? = some (.lst ds) ∧ ds.length < sizeLine ∧ post' (.d .non) (T.set k (.lst (ds ++ [d])))) :
    EvE K (tBM K "list" rAppend to (tCons te tNil)) env S post' := fun B H as σ c g Q q0 =>
  ho B H as σ c g _ fun v B1 H1 c1 e1 r1 => by
    obtain ⟨p, hp, rfl⟩ := r1
    obtain ⟨es, hes⟩ := h1
    obtain ⟨ws, hw, rw'⟩ := (c1.cells k p _ hp hes).2.lst
    refine ⟨.inl ⟨rfl, ws, Evl.sq_of hw⟩, h B1 H1 as σ c1 (g.mono e1.ex) _ fun v r B2 H2 T c2 e2 r2 hp2 => ?_⟩
    obtain ⟨d, ds, rfl, hs, hl, hq⟩ := q r T hp2
    obtain ⟨vs, hv, rv⟩ := (c2.cells k p _ hp hs).2.lst
    exact ⟨p, vs, v, rfl, rfl, hv, by rw [rv.length]; exact hl, q0 .non (.d .non) B2 _ (T.set k (.lst (ds ++ [d]))) (c2.setc hp (show CellO K B2 (.lst _) (.lst _) from rv.append (.cons r2 .nil))) ((e1.trans e2).trans (Evo.setc (List.mem_of_getElem? hp) hv (fun _ z => nomatch z))) .non hq⟩
theorem sp_dropE1 (h : EvE K te env S post) (q : ∀ r S1, post r S1 → P.nx env S1) : SP K n (tDrop te) env S P := fun B0 H0 as0 Bk B H as σ hl f c g D m =>
  h B H as σ c g _ fun v r B1 H1 S1 c1 e1 r1 hp => m.nx _ S1 B1 H1 as _ (f.step e1) c1 (g.mono e1.ex) (q r S1 hp)
theorem sp_setC1 {ds : List Dat} (h : EvN K te env S ds S1) (q : P.nx (env.set i (some (.c S1.length))) (S1 ++ [.lst ds])) : SP K n (tAsg te (gName i)) env S P := fun B0 H0 as0 Bk B H as σ hl f c g D m =>
  h B H as σ c g _ fun p B1 H1 vs c1 e1 hp hb h1 r1 => by
    have hpa := hp.1
    refine m.nx _ _ B1 H1 (as ++ [p]) _ ((f.step e1).push (f.evo.oldN hp.2)) (c1.push hb hpa (.ofL h1 r1)) (((g.mono e1.ex).grow).set i ?_) q
    exact ⟨p, by rw [← c1.len]; simp, rfl⟩
end
end RW

set_option Elab.async false
set_option linter.all false
set_option maxRecDepth 100000
set_option maxHeartbeats 4000000
namespace RW
open PySem PySem.Spec PyProof.Rows L2
open Evl (Ex)
/-! ### a slice of a list or a tuple -/
def rSlE (K : PySem.W.Frag) : V → Option Int → Option Int → Hp → VK → Prop := fun x l u H Q => rSlA K x l u H Q ∨ rSlL K x l u H Q
theorem sl_any {X : Cx} (K : PySem.W.Frag) (h : X.K = K := by rfl) : L2.SlR X (rSlE K) := L2.SlR.or (sl_tupAK K h) (sl_listK K h)
section
variable {K : PySem.W.Frag} {te : TE} {tl th : TO} {env : Env1} {S S1 S2 S3 ds : List Dat} {x : Sl} {lo hi : Option Int} {a : Addr}
theorem ev_slEl (h : Ev K te env S (.d (.lst ds)) S1) (hl : EvO K tl env S1 lo S2) (hh : EvO K th env S2 hi S3) : Ev K (tSl (rSlE K) te tl th) env S (.d (.lst (cutD ds lo hi))) S3 := fun B H as σ c g Q q =>
  h B H as σ c g _ fun v B1 H1 c1 e1 r1 => hl B1 H1 as σ c1 (g.mono e1.ex) _ fun B2 H2 c2 e2 => hh B2 H2 as σ c2 (g.mono (e1.trans e2).ex) _ fun B3 H3 c3 e3 => by
    have r3 : Rep K B3 v (.lst ds) := r1.mono (e2.trans e3).ex
    cases r3 with
    | lst h1 r1 => exact .inr ⟨_, _, rfl, Evl.sq_of (c3.ex _ _ h1), fun p hp => q _ (upd B3 p _) _ (c3.new hp) (((e1.trans e2).trans e3).trans (Evo.new c3 hp)) (.lst upd_same ((reps_cut r1 lo hi).mono (Evl.Ex.new (c3.Bnone hp))))⟩
theorem ev_slEt (h : Ev K te env S (.d (.tup ds)) S1) (hl : EvO K tl env S1 lo S2) (hh : EvO K th env S2 hi S3) : Ev K (tSl (rSlE K) te tl th) env S (.d (.tup (cutD ds lo hi))) S3 := fun B H as σ c g Q q =>
  h B H as σ c g _ fun v B1 H1 c1 e1 r1 => hl B1 H1 as σ c1 (g.mono e1.ex) _ fun B2 H2 c2 e2 => hh B2 H2 as σ c2 (g.mono (e1.trans e2).ex) _ fun B3 H3 c3 e3 => by
    have r3 : Rep K B3 v (.tup ds) := r1.mono (e2.trans e3).ex
    have e03 := (e1.trans e2).trans e3
    cases r3 with
    | tup h1 r1 =>
      refine .inl ⟨_, _, rfl, Evl.ex_t c3.ex h1, fun hw => ?_, fun hw p hp => ?_⟩
      · rw [r1.length] at hw
        rw [cutD_whole hw] at q
        exact q _ B3 H3 c3 e03 (.tup h1 r1)
      · exact q _ (upd B3 p _) _ (c3.new hp) (e03.trans (Evo.new c3 hp)) (.tup (Evl.st_of upd_same) ((reps_cut r1 lo hi).mono (Evl.Ex.new (c3.Bnone hp))))
/-! ### a tuple that stands at the top of the module -/
theorem ev_cst {d : Dat} (h : ∀ B : Hp, Rep K B (.ref a) d) : Ev K (tC (.ref a)) env S (.d d) S := fun B H as σ c g Q q => q _ B H c Evo.refl (h B)
theorem rep_cst {o : Option Addr} {its : List Value} {n : Nat} {sl : Array (Option Value)} {ds : List Dat} {vs : List V} {B : Hp} (e : K.lookup a = some ⟨.type "tuple", o, .seq its.toArray n, sl⟩) (hz : its.length ≤ 1000) (hv : Vals vs its) (r : Reps K B vs ds) : Rep K B (.ref a) (.tup ds) :=
  .tup (.inr ⟨_, its.toArray, n, e, rfl, rfl, Nat.le_trans (by simpa using hz) (by decide), by simpa using hv⟩) r
theorem rep_cst2 {o : Option Addr} {x y : Int} {t0 t1 : Tok} {n : Nat} {sl : Array (Option Value)} (e : K.lookup a = some ⟨.type "tuple", o, .seq #[.int x t0, .int y t1] n, sl⟩) : ∀ B : Hp, Rep K B (.ref a) (.tup [.int x, .int y]) := fun B =>
  rep_cst (its := [.int x t0, .int y t1]) (vs := [.int x, .int y]) e (by simp) (.cons ⟨_, rfl⟩ (.cons ⟨_, rfl⟩ .nil)) (.cons (.int _) (.cons (.int _) .nil))
theorem rep_cst4 {o : Option Addr} {b0 b1 b2 b3 : Addr} {d0 d1 d2 d3 : Dat} {n : Nat} {sl : Array (Option Value)} (e : K.lookup a = some ⟨.type "tuple", o, .seq #[.ref b0, .ref b1, .ref b2, .ref b3] n, sl⟩) (h0 : ∀ B : Hp, Rep K B (.ref b0) d0) (h1 : ∀ B : Hp, Rep K B (.ref b1) d1) (h2 : ∀ B : Hp, Rep K B (.ref b2) d2) (h3 : ∀ B : Hp, Rep K B (.ref b3) d3) : ∀ B : Hp, Rep K B (.ref a) (.tup [d0, d1, d2, d3]) := fun B =>
  rep_cst (its := [.ref b0, .ref b1, .ref b2, .ref b3]) (vs := [.ref b0, .ref b1, .ref b2, .ref b3]) e (by simp) (.cons rfl (.cons rfl (.cons rfl (.cons rfl .nil)))) (.cons (h0 B) (.cons (h1 B) (.cons (h2 B) (.cons (h3 B) .nil))))
end
end RW

set_option Elab.async false
set_option linter.all false
set_option maxRecDepth 100000
set_option maxHeartbeats 4000000
/-! ### sets of tuples of ints: set(t), len, sorted -/
namespace RwZs
open PySem PySem.Spec PyProof.Rows L2
section
variable {P : Program} {w : World} {A : Around} {E : Value → Shared → Prop} {s : Shared}
/-- a set that is still empty -/
abbrev eS (w : World) : Obj := { cls := .type "set", dict := none, data := .set #[] 0 (.fresh 0 0 (!w.params.followText "set-order")) }
/-- set(t) of a tuple of tuples of ints -/
theorem set_of_tuple {l : Addr} {items : Array Value} (ks : List (Addr × List Int)) {Q : Value → Shared → Prop} (hh : A.handled = none) (hl : s.heap.IsTuple l items) (hit : items.toList = ks.map fun p => Value.ref p.1)
    (hk : ∀ p ∈ ks, IsT P w s.heap p.2 p.1) (hfew : ks.length < 64) (hu : A.units + 3 < cLine)
    (h : ∀ (h' : Heap) (tk : Nat) L es ep t, SetTR P w h' s.heap.objs.size L es ep t → Got ks ks.length L → (∀ b o, s.heap.get? b = some o → h'.get? b = some o) → Q (.ref s.heap.objs.size) { s with heap := h', toks := tk }) :
    wpAny (model P w) A (call (.type "set") [.ref l]) Q E s := by
  have hisz : items.size = ks.length := by
    have q := congrArg List.length hit
    rw [Array.length_toList, List.length_map] at q
    exact q
  obtain ⟨c, tl, hmro⟩ := F.called_set.mro
  have hmade := F.called_set.made
  have hsub := F.called_set.sub
  refine wpAny_call (codeAny_of_tree ?_)
  show wpAny _ _ (callAny (.type "set") _) _ _ _
  refine wpAny_pure ⟨Code.quiet_builtin _ (by decide +kernel), codeAny_builtin F.entry_type_call ?_⟩
  rw [Around.under_plain (weight_type_call_type "set" [.ref l] []) rfl]
  have h1 := F.called_set.notType
  have h2 := F.called_set.canCreate
  have hct := F.typeCall_set_1 (.ref l)
  repeat (any_goals (first | assumption | wp_step))

  refine codeAny_mono (code_set_led1 (.ref l) (E := E) (Q₁ := fun obj s₁ => obj = .ref s.heap.objs.size ∧ s₁ = { s with heap := s.heap.push (eS w) }) ⟨rfl, rfl⟩) fun r s₁ hr => ?_
  cases r with
  | error e => exact hr
  | ok fl =>
    cases fl with
    | ret obj =>
      obtain ⟨rfl, rfl⟩ := hr
      have hS : (s.heap.push (eS w)).get? s.heap.objs.size = some (eS w) := Heap.get?_push_size _ rfl
      have hT : Shared.TypeIs { s with heap := s.heap.push (eS w) } (.ref s.heap.objs.size) "set" := ⟨_, hS, rfl⟩
      have hli := F.called_set.init.lookup
      have hbi := F.called_set.init.bind (.ref s.heap.objs.size)
      repeat (any_goals (first | assumption | wp_step))

      refine codeAny_mono (codeAny_call_builtin (R := wants (fun r s₂ => r = .none ∧ ∃ h' tk L es ep t, s₂ = { s with heap := h', toks := tk } ∧ SetTR P w h' s.heap.objs.size L es ep t ∧ Got ks ks.length L ∧
          (∀ b o, s.heap.get? b = some o → h'.get? b = some o)) E) F.called_set.init.plain F.entry_set_init (check_set_init_1 hT ?_)) fun r₂ s₂ hr₂ => ?_
      · obtain ⟨ol, hol, hcl, nl, hdl⟩ := hl
        obtain ⟨ocls, odict, odata, oslots⟩ := ol
        simp only at hcl hdl
        subst hcl; subst hdl
        have hol' : (s.heap.push (eS w)).get? l = some { cls := .type "tuple", dict := odict, data := .seq items nl, slots := oslots } := Heap.get?_push_of_some _ hol
        have hsls := F.sub_tuple_set
        have hslf := F.sub_tuple_frozenset
        have hne : (Value.type "tuple" == Value.type "dict") = false := by decide
        have hl1 : (s.heap.push (eS w)).IsTuple l items := ⟨_, hol', rfl, nl, rfl⟩
        unfold Builtin.«set.__init__» noKeywords Builtin.Frozenset.updateFrom
        generalize hPI : pyIter = PI
        wp_walk
        subst hPI

        refine wpAny_pyIter_tuple hl1 ?_
        refine wpAny_bind (wpAny_runValue ?_)
        have hlS : l < s.heap.objs.size := Heap.lt_size hol
        have hh3 : A.in1.in1.in1.handled = none := by simp [hh]
        have hz1 : (s.heap.push (eS w)).objs.size = s.heap.objs.size + 1 := Heap.size_push ..
        have hneI : l ≠ (s.heap.push (eS w)).objs.size := by
          rw [Heap.size_push]; exact Nat.ne_of_lt (Nat.lt_succ_of_lt hlS)
        have hSf : s.heap.objs.size ∉ [(s.heap.push (eS w)).objs.size, l] := by
          rw [Heap.size_push]; simp only [List.mem_cons, List.mem_singleton, List.not_mem_nil, or_false, not_or]
          exact ⟨Nat.ne_of_lt (Nat.lt_succ_self _), Nat.ne_of_gt hlS⟩
        have hval : ∀ (i : Nat) (v : Value), items[i]? = some v → ∃ p, ks[i]? = some p ∧ v = .ref p.1 := fun i v hv => by
          have q : items.toList[i]? = some v := by rw [Array.getElem?_toList]; exact hv
          rw [hit, List.getElem?_map] at q
          cases hq : ks[i]? with
          | none => rw [hq] at q; cases q
          | some p =>
            rw [hq] at q
            exact ⟨p, rfl, (Option.some.inj q).symm⟩
        have none_of : ∀ b, s.heap.objs.size ≤ b → s.heap.get? b = none := fun b hb => by
          cases q : s.heap.get? b with
          | none => rfl
          | some o => exact absurd (Nat.lt_of_lt_of_le (Heap.lt_size q) hb) (Nat.lt_irrefl _)
        refine set_update_tups ((Walks.tuple hh3 _ l hneI items).toS) s.heap.objs.size
          hSf ks hisz hfew hval s.heap hk (none_of _ (Nat.le_refl _)) (fun b hb => none_of b (by
            rw [List.mem_singleton.mp hb, Heap.size_push]
            exact Nat.le_succ _)) hu (items.size - 0) 0 _ (by omega) (Nat.zero_le _)
          ⟨⟨_, Heap.get?_push_size _ rfl, rfl, rfl⟩, (hl1.push _)⟩ (fun b o e => Heap.get?_push_of_some _ (Heap.get?_push_of_some _ e)) ?hS0 ?hR
        case hS0 =>
          have hget : ((s.heap.push (eS w)).push { cls := .type "tuple_iterator", data := .fields #[.ref l, .int 0 0] }).get? s.heap.objs.size
              = some (eS w) := Heap.get?_push_of_some _ hS
          exact ⟨[], #[], 0, _, setTR_fresh hget, Got.zero ks⟩
        case hR =>
          intro s' L es ep t hm hS' g' hkp
          obtain ⟨h', g2, d', tk', os'⟩ := s'
          have eg : g2 = s.gens := hm.gens
          have ed : d' = s.drawn := hm.drawn
          have eo : os' = s.os := hm.os
          subst eg; subst ed; subst eo
          show wpAny _ _ _ _ _ _
          refine wpAny_pure ?_
          show wpAny _ _ (ret Value.none) _ _ _
          rw [hisz] at g'
          exact wpAny_pure ⟨rfl, h', tk', L, es, ep, t, rfl, hS', g', hkp⟩

      · cases r₂ with
        | error e => exact hr₂
        | ok fl₂ =>
          cases fl₂ with
          | ret r =>
            obtain ⟨rfl, h', tk, L, es, ep, t, rfl, hS', g', hk'⟩ := hr₂
            repeat (any_goals (first | assumption | wp_step))
            exact h _ _ _ _ _ _ hS' g' hk'
          | _ => exact hr₂.elim
    | _ => exact hr.elim
end
section
variable {X : Cx}
def rSetTT (K : PySem.W.Frag) (P : Program) (w : World) : List V → Hp → VK → Prop := fun xs H Q => ∃ (l : Addr) (ks : List (Addr × List Int)), xs = [V.ref l] ∧ SqT K H l (ks.map fun p => V.ref p.1) ∧ (∀ p ∈ ks, SqT K H p.1 (p.2.map V.int)) ∧ ks.length < 64 ∧
  ∀ a L, H a = none → (∀ p ∈ L, p ∈ ks) → (∀ p ∈ ks, p.2 ∈ L.map (·.2)) → (L.map (·.2)).Nodup → L.length < 64 → Q (.ref a) (upd H a (SetTO P w a L))
theorem cr_setTT (hc : X.calm = true) (hu : X.A.units + 64 < cLine) : CallR X (.type "set") (rSetTT X.K X.prog X.w) := by
  intro pins s σ H xs us Q I r h
  obtain ⟨l, ks, rfl, hl, hk, hf, q⟩ := h
  rw [Vals.ref1 r]
  obtain ⟨its, rv, pl, hz⟩ := I.tuple hl
  have hn : H s.heap.objs.size = none := I.hok.fresh (Nat.le_refl _)
  refine set_of_tuple (P := X.prog) (w := X.w) ks (I.ok.hd hc) pl (by simpa using refs_of_vals rv) (fun p hp => I.isT (hk p hp)) hf (by omega) fun h' tk L es ep t R g k => ?_
  refine ⟨.ref s.heap.objs.size, upd H s.heap.objs.size (SetTO X.prog X.w s.heap.objs.size L), I.laid (t' := tk) k (Nat.le_refl _) (setTO_new R.t0), rfl, q _ L hn (fun p hp => ?_) (fun p hp => ?_) R.nd R.few⟩
  · exact List.mem_of_mem_take (g.sub p hp)
  · exact g.all p (by rw [List.take_length]; exact hp)
def rLenS (K : PySem.W.Frag) (P : Program) (w : World) : List V → Hp → VK → Prop := fun vs H Q => ∃ (a : Addr) (L : List (Addr × List Int)), vs = [V.ref a] ∧ H a = some (SetTO P w a L) ∧ (∀ p ∈ L, SqT K H p.1 (p.2.map V.int)) ∧ Q (.int L.length) H
theorem cr_lenS : CallR X (.builtin "len") (rLenS X.K X.prog X.w) := by
  intro pins s σ H vs us Q I r h
  obtain ⟨a, L, rfl, ha, hk, q⟩ := h
  have R0 : SetT0 X.prog X.w s.heap a L := (I.hok a _ ha).1
  obtain ⟨es, ep, t, R⟩ := R0.full fun p hp => I.isT (hk p hp)
  rw [Vals.ref1 r]
  obtain ⟨o, ho, hex, hd⟩ := R.ob
  have hsz := R.size
  have hfew := R.few
  exact call_len_set ho hex hd R.fits (by omega) ⟨.int L.length, H, I.tok _, ⟨_, by rw [hsz]⟩, q⟩
def rSortS (K : PySem.W.Frag) (P : Program) (w : World) : List V → Hp → VK → Prop := fun vs H Q => ∃ (a : Addr) (L : List (Addr × List Int)) (d : Nat), vs = [V.ref a] ∧ H a = some (SetTO P w a L) ∧ (∀ p ∈ L, SqT K H p.1 (p.2.map V.int)) ∧ 1 ≤ d ∧ (∀ p ∈ L, p.2.length = d) ∧
  ∀ (L' : List (Addr × List Int)) (p : Addr), L'.Perm L → L'.Pairwise (fun x y => RwS.lx y.2 x.2 = false) → L'.length < 64 → H p = none → Q (.ref p) (upd H p (.lst (L'.map fun q => V.ref q.1)))
theorem cr_sortS (hc : X.calm = true) : CallR X (.builtin "sorted") (rSortS X.K X.prog X.w) := by
  intro pins s σ H vs us Q I r h
  obtain ⟨a, L, d, rfl, ha, hk, hd, hl, q⟩ := h
  have R0 : SetT0 X.prog X.w s.heap a L := (I.hok a _ ha).1
  obtain ⟨es, ep, t, R⟩ := R0.full fun p hp => I.isT (hk p hp)
  rw [Vals.ref1 r]
  obtain ⟨o, ho, hex, hdt⟩ := R.ob
  have hsz := R.size
  have hfew := R.few
  have hh := I.ok.hd hc
  refine Calls.call_function_entry kind_sorted plain_sorted entry_sorted (args_sorted1 (.ref a)) ?_
  unfold Builtin.«sorted»
  refine wpAny_bind (m := checkCount "sorted" 1 1 _) (wpAny_pure ?_)
  refine wpAny_bind (collect_set (A := X.A.in1) hh ⟨o, ho, hex.1, hdt⟩ R.fits (by unfold scanBound; omega) R.tab.ris R.led fun s1 vs k1 hz g1 o1 pm => ?_)
  have hes : es.toList.map (·.2) = L.map fun q => Value.ref q.1 := by
    rw [R.rows]
    unfold rowsOf
    rw [List.map_map] <;> rfl
  rw [hes] at pm
  have hvl : vs.length < 64 := by rw [pm.length_eq, List.length_map]; exact hfew
  refine wpAny_bind (wpAny_newList ?_ (by rw [sizeLine_eq]; omega))
  have hoL : (s1.heap.push (seqObj "list" vs.toArray 0)).get? s1.heap.objs.size = some (seqObj "list" vs.toArray 0) := Heap.get?_push_size _ rfl
  have tk : ∀ q ∈ L, TS.TupInts (s1.heap.push (seqObj "list" vs.toArray 0)) (.ref q.1) q.2 := fun q hq => tupInts_of (P := X.prog) (w := X.w) (isT_keep (R.tup q hq) fun b u e => Heap.get?_push_of_some _ (k1 b u e))
  have x : RwS.Tups (s1.heap.push (seqObj "list" vs.toArray 0)) d vs := fun v hv => by
    obtain ⟨q, hq, e⟩ := List.mem_map.mp (pm.mem_iff.mp hv)
    rw [← e]
    exact ⟨q.2, tk q hq, hl q hq⟩
  refine wpAny_bind (wpAny_holding (wpAny_call_entry slot_list_sort ⟨_, hoL, rfl⟩ entry_list_sort (RwS.sort_go (s := { s1 with heap := s1.heap.push (seqObj "list" vs.toArray 0) }) hoL hvl hd x fun out a1 a2 => ⟨.none, rfl, ?_⟩) (args_list_sort (.ref s1.heap.objs.size))))
  obtain ⟨c, hcc⟩ := sortedHeap_at (vs := vs) (out := out) hoL
  obtain ⟨L', e', pL⟩ := RwS.perm_lift (a1.trans pm)
  have hfew' : L'.length < 64 := by rw [pL.length_eq]; exact hfew
  have hlen : (L'.map fun q => V.ref q.1).length ≤ sizeLine := by rw [List.length_map, sizeLine_eq]; omega
  have hn : H s1.heap.objs.size = none := I.hok.fresh hz
  have hv : Vals (L'.map fun q => V.ref q.1) out.toList := by rw [e']; exact vals_of_refs L'
  have pw : L'.Pairwise (fun x y => RwS.lx y.2 x.2 = false) := by
    obtain ⟨g, h1, h2⟩ := a2
    rw [e'] at h2
    refine List.Pairwise.imp_of_mem (fun {y z} hy hz hle => ?_) (List.pairwise_map.mp h2)
    have gx : ∀ y ∈ L', g (.ref y.1) = y.2 := fun y hy => by
      have m := pL.mem_iff.mp hy
      exact (h1 (.ref y.1) (pm.mem_iff.mpr (List.mem_map.mpr ⟨y, m, rfl⟩))).ints.symm.trans (tk y m).ints
    rw [gx y hy, gx z hz] at hle
    exact hle
  refine wpAny_pure ?_
  have k : ∀ b o, s.heap.get? b = some o → (sortedHeap (s1.heap.push (seqObj "list" vs.toArray 0)) s1.heap.objs.size vs out).get? b = some o := fun b u e => by
    have q := k1 b u e
    have hlt := Heap.lt_size q
    rw [sortedHeap_old (Nat.ne_of_lt hlt) (by rw [size_push']; exact Nat.lt_succ_of_lt hlt)]
    exact Heap.get?_push_of_some _ q
  have J : Inv X pins σ (upd H s1.heap.objs.size (.lst (L'.map fun q => V.ref q.1))) { s with heap := sortedHeap (s1.heap.push (seqObj "list" vs.toArray 0)) s1.heap.objs.size vs out, gens := s1.gens, drawn := s1.drawn, toks := s1.toks } :=
    I.call (ch := []) (Un.laid k hz hn) (I.hok.laid k hz ⟨hlen, out.toList, c, hv, hcc⟩) (by rw [g1]; exact I.bare) (fun _ z => nomatch z)
  have e : ({ s1 with heap := sortedHeap (s1.heap.push (seqObj "list" vs.toArray 0)) s1.heap.objs.size vs out } : Shared) = { s with heap := sortedHeap (s1.heap.push (seqObj "list" vs.toArray 0)) s1.heap.objs.size vs out, gens := s1.gens, drawn := s1.drawn, toks := s1.toks } := by
    cases s1
    cases s
    cases o1
    rfl
  refine ⟨.ref s1.heap.objs.size, rfl, ?_⟩
  rw [e]
  exact ⟨.ref s1.heap.objs.size, _, J, rfl, q L' _ pL pw hfew' hn⟩
end
/-! ### the calls -/
section
variable {X : Cx} {a : Expr} {ta : TE} {p p2 q pos : Pos}
def tLenSet (K : PySem.W.Frag) (P : Program) (w : World) (ta : TE) : TE := tCB (rLenS K P w) (tCons (tCB (rSetTT K P w) (tCons ta tNil)) tNil)
def tSortSet (K : PySem.W.Frag) (P : Program) (w : World) (ta : TE) : TE := tCB (rSortS K P w) (tCons (tCB (rSetTT K P w) (tCons ta tNil)) tNil)
theorem pe_lenSetT (K : PySem.W.Frag) (P : Program) (w : World) (hc : X.calm = true) (hu : X.A.units + 64 < cLine) (hg : Gl X "len") (hm : X.mg "len" = none) (hg2 : Gl X "set") (hm2 : X.mg "set" = none) (ha : PE X a ta)
    (na : starEach [a] X.env = (false, eval a X.env) :: starEach [] X.env := by rfl) (nb : (backTo q (starEach [] X.env)).any (·.1) = false := by rfl) (nc : (backTo pos (starEach [] X.env)).any (·.1) = false := by rfl) (nd : starEach [.Call (.Name "set" p2) [a] [] q] X.env = (false, eval (.Call (.Name "set" p2) [a] [] q) X.env) :: starEach [] X.env := by rfl) (hK : X.K = K := by rfl) (hP : X.prog = P := by rfl) (hw : X.w = w := by rfl) :
    PE X (.Call (.Name "len" p) [.Call (.Name "set" p2) [a] [] q] [] pos) (tLenSet K P w ta) := by
  subst hK hP hw
  exact pe_callB cr_lenS hg hm PySem.boot_len (pa_cons (pe_callTy (cr_setTT hc hu) hg2 hm2 PyProof.Rows.boot_set (pa_cons ha pa_nil (hs := na)) (he := na) (hpl := nb)) pa_nil (hs := nd)) (he := nd) (hpl := nc)
theorem pe_sortSetT (K : PySem.W.Frag) (P : Program) (w : World) (hc : X.calm = true) (hu : X.A.units + 64 < cLine) (hg : Gl X "sorted") (hm : X.mg "sorted" = none) (hg2 : Gl X "set") (hm2 : X.mg "set" = none) (ha : PE X a ta)
    (na : starEach [a] X.env = (false, eval a X.env) :: starEach [] X.env := by rfl) (nb : (backTo q (starEach [] X.env)).any (·.1) = false := by rfl) (nc : (backTo pos (starEach [] X.env)).any (·.1) = false := by rfl) (nd : starEach [.Call (.Name "set" p2) [a] [] q] X.env = (false, eval (.Call (.Name "set" p2) [a] [] q) X.env) :: starEach [] X.env := by rfl) (hK : X.K = K := by rfl) (hP : X.prog = P := by rfl) (hw : X.w = w := by rfl) :
    PE X (.Call (.Name "sorted" p) [.Call (.Name "set" p2) [a] [] q] [] pos) (tSortSet K P w ta) := by
  subst hK hP hw
  exact pe_callB (cr_sortS hc) hg hm (by decide +kernel) (pa_cons (pe_callTy (cr_setTT hc hu) hg2 hm2 PyProof.Rows.boot_set (pa_cons ha pa_nil (hs := na)) (he := na) (hpl := nb)) pa_nil (hs := nd)) (he := nd) (hpl := nc)
end
end RwZs

namespace RW
open PySem PySem.Spec PyProof.Rows L2
open Evl (Ex)
def uniq : List (List Int) → List (List Int)
  | [] => []
  | x :: r => if x ∈ r then uniq r else x :: uniq r
theorem mem_uniq {x : List Int} : ∀ {r : List (List Int)}, x ∈ uniq r ↔ x ∈ r
  | [] => Iff.rfl
  | y :: r => by
    unfold uniq
    split
    · rename_i h
      rw [mem_uniq (r := r), List.mem_cons]
      exact ⟨Or.inr, fun z => z.elim (fun e => e ▸ h) id⟩
    · rw [List.mem_cons, List.mem_cons, mem_uniq (r := r)]
theorem nodup_uniq : ∀ r : List (List Int), (uniq r).Nodup
  | [] => List.nodup_nil
  | y :: r => by
    unfold uniq
    split
    · exact nodup_uniq r
    · rename_i h
      exact List.nodup_cons.mpr ⟨fun z => h (mem_uniq.mp z), nodup_uniq r⟩
abbrev rwD (r : List Int) : Dat := .tup (r.map Dat.int)
section
variable {P : Program} {w : World} {K : PySem.W.Frag} {B : Hp} {te : TE} {env : Env1} {S S1 : List Dat}
theorem rows_read : ∀ {rows : List (List Int)} {vs : List V}, Reps K B vs (rows.map rwD) → ∃ ks : List (Addr × List Int), vs = ks.map (fun p => V.ref p.1) ∧ ks.map (·.2) = rows ∧ ∀ p ∈ ks, SqT K B p.1 (p.2.map V.int)
  | [], _, h => by cases h; exact ⟨[], rfl, rfl, fun _ z => nomatch z⟩
  | r :: rows, _, h => by
    cases h with
    | cons h t =>
      obtain ⟨ks, e1, e2, e3⟩ := rows_read t
      cases h with
      | tup h1 r1 =>
        have := r1.ints
        subst this
        rename_i a
        refine ⟨(a, r) :: ks, by rw [e1]; rfl, by rw [List.map_cons, e2], fun p hp => ?_⟩
        rcases List.mem_cons.mp hp with rfl | hp
        · exact h1
        · exact e3 p hp
theorem reps_rws : ∀ {ks : List (Addr × List Int)}, (∀ p ∈ ks, SqT K B p.1 (p.2.map V.int)) → Reps K B (ks.map fun p => V.ref p.1) ((ks.map (·.2)).map rwD)
  | [], _ => .nil
  | p :: ks, h => .cons (.tup (h p List.mem_cons_self) (reps_ints p.2)) (reps_rws fun q hq => h q (List.mem_cons_of_mem _ hq))
theorem uniq_perm {L ks : List (Addr × List Int)} (h1 : ∀ p ∈ L, p ∈ ks) (h2 : ∀ p ∈ ks, p.2 ∈ L.map (·.2)) (h3 : (L.map (·.2)).Nodup) : (L.map (·.2)).Perm (uniq (ks.map (·.2))) :=
  (List.perm_ext_iff_of_nodup h3 (nodup_uniq _)).mpr fun x => by
    rw [mem_uniq]
    constructor
    · intro h
      obtain ⟨p, hp, rfl⟩ := List.mem_map.mp h
      exact List.mem_map.mpr ⟨p, h1 p hp, rfl⟩
    · intro h
      obtain ⟨p, hp, rfl⟩ := List.mem_map.mp h
      exact h2 p hp
theorem sqt_upd {H : Hp} {a p : Addr} {o : HO} {xs : List V} (h : SqT K B a xs) (hb : B p = none) (ex : Ex B H) : SqT K (upd H p o) a xs := Evl.ex_t (fun b u q => by rw [upd_ne (by rintro rfl; rw [hb] at q; cases q)]; exact ex b u q) h
theorem ev_lenSet {rows : List (List Int)} (h : Ev K te env S (.d (.tup (rows.map rwD))) S1) (h64 : rows.length < 64) : Ev K (RwZs.tLenSet K P w te) env S (.d (.int (uniq rows).length)) S1 := fun B H as σ c g Q q =>
  h B H as σ c g _ fun v B1 H1 c1 e1 r1 => by
    cases r1 with
    | tup h1 r1 =>
      obtain ⟨ks, rfl, rfl, e3⟩ := rows_read r1
      refine ⟨_, ks, rfl, Evl.ex_t c1.ex h1, fun p hp => Evl.ex_t c1.ex (e3 p hp), by rw [List.length_map] at h64; exact h64, fun a L ha l1 l2 l3 l4 => ?_⟩
      have hb := c1.Bnone ha
      refine ⟨a, L, rfl, upd_same, fun p hp => sqt_upd (e3 p (l1 p hp)) hb c1.ex, ?_⟩
      have el : L.length = (uniq (ks.map (·.2))).length := by
        have := (uniq_perm l1 l2 l3).length_eq
        rwa [List.length_map] at this
      rw [el]
      exact q _ B1 _ (c1.other hb (c1.fresh ha)) (e1.trans (Evo.refl.other (.of ha))) (.int _)
theorem en_sortSet {rows out : List (List Int)} {d : Nat} (h : Ev K te env S (.d (.tup (rows.map rwD))) S1) (h64 : rows.length < 64) (hd : 1 ≤ d) (hl : ∀ r ∈ rows, r.length = d) (ho : sortF (uniq rows) = out) : EvN K (RwZs.tSortSet K P w te) env S (out.map rwD) S1 := fun B H as σ c g Q q =>
  h B H as σ c g _ fun v B1 H1 c1 e1 r1 => by
    cases r1 with
    | tup h1 r1 =>
      obtain ⟨ks, rfl, rfl, e3⟩ := rows_read r1
      refine ⟨_, ks, rfl, Evl.ex_t c1.ex h1, fun p hp => Evl.ex_t c1.ex (e3 p hp), by rw [List.length_map] at h64; exact h64, fun a L ha l1 l2 l3 l4 => ?_⟩
      have hb := c1.Bnone ha
      refine ⟨a, L, d, rfl, upd_same, fun p hp => sqt_upd (e3 p (l1 p hp)) hb c1.ex, hd, fun p hp => hl _ (List.mem_map.mpr ⟨p, l1 p hp, rfl⟩), fun L' pp pm pw pl hp => ?_⟩
      have eq : L'.map (·.2) = out := by
        rw [← ho]
        refine sortF_uniq (n := d) (fun r hr => hl r (mem_uniq.mp hr)) _ ((pm.map _).trans (uniq_perm l1 l2 l3)) (List.pairwise_map.mpr pw)
      rw [← eq] at q
      exact evn_new c (c1.other hb (c1.fresh ha)) (e1.trans (Evo.refl.other (.of ha))) hp (reps_rws fun p hp => e3 p (l1 p (pm.mem_iff.mp hp))) q
end
end RW

set_option Elab.async false
set_option linter.all false
set_option maxRecDepth 100000
set_option maxHeartbeats 4000000
/-! ### sorted(xs) of data that are alike (rows of rows), max(xs, default=e) -/
namespace RW
open PySem PySem.Spec PyProof.Rows L2
open Evl (Ex)
open PySem.W (EachIs AllAlike Sortable dataLe)
def rSortDat (K : PySem.W.Frag) : List V → Hp → VK → Prop := fun vs H Q => ∃ (a : Addr) (ps : List (V × Dat)), vs = [V.ref a] ∧ SqL K H a (ps.map (·.1)) ∧ (∀ p ∈ ps, Dp K H p.1 (py p.2)) ∧ AllAlike (ps.map fun p => py p.2) ∧ Sortable (ps.map fun p => py p.2) ∧ (∀ p ∈ ps, (py p.2).depth ≤ 60) ∧ ps.length ≤ sizeLine ∧
  ∀ l, H l = none → Q (.ref l) (upd H l (.lst ((ps.mergeSort (dataLe false fun p => py p.2)).map (·.1))))
theorem each_rel : ∀ {ps : List (V × Dat)} {us : List Value}, Vals (ps.map (·.1)) us → EachIs (fun u p => RelV p.1 u) us ps
  | [], _, .nil => .nil
  | _ :: _, _, .cons h t => .cons h (each_rel t)
theorem rel_each : ∀ {ps : List (V × Dat)} {us : List Value}, EachIs (fun u p => RelV p.1 u) us ps → Vals (ps.map (·.1)) us
  | _, _, .nil => .nil
  | _, _, .cons h t => .cons h (rel_each t)
theorem each_reads {X : Cx} {pins : List (Addr × Obj)} {σ : L2.St} {H : Hp} {s : Shared} (I : Inv X pins σ H s) : ∀ {ps : List (V × Dat)} {us : List Value}, Vals (ps.map (·.1)) us → (∀ p ∈ ps, Dp X.K H p.1 (py p.2)) → EachIs (fun u p => ∃ as, Reads s.heap u (py p.2) as) us ps
  | [], _, .nil, _ => .nil
  | p :: _, _, .cons h t, hd => .cons (Dp.reads I (py p.2) p.1 _ (hd p List.mem_cons_self) h) (each_reads I t fun q hq => hd q (List.mem_cons_of_mem _ hq))
theorem cr_sortDat {X : Cx} (K : PySem.W.Frag) (hu : X.A.units + 64 < cLine) (hK : X.K = K := by rfl) : CallR X (.builtin "sorted") (rSortDat K) := by
  subst hK
  intro pins s σ H vs us Q I r h
  obtain ⟨a, ps, rfl, hs, hd, hal, hso, hdp, hl, q⟩ := h
  rw [Vals.ref1 r]
  obtain ⟨its, rv, pl, hz⟩ := I.list hs
  refine PySem.W.sorted_data (R := fun u p => RelV p.1 u) (enc := fun p : V × Dat => py p.2) pl.isList (each_rel rv) (each_reads I rv hd) hal hso hl (fun b hb => by have := hdp b hb; omega) fun out hlen he => ?_
  obtain ⟨ep, hat⟩ := sortedAll_at s.heap its (List.toArray out)
  have hlen' : ((ps.mergeSort (dataLe false fun p => py p.2)).map (·.1)).length ≤ sizeLine := by rw [List.length_map, List.length_mergeSort]; exact hl
  refine ⟨.ref (s.heap.objs.size + 1), upd H (s.heap.objs.size + 1) (.lst ((ps.mergeSort (dataLe false fun p => py p.2)).map (·.1))), I.laid (t' := s.toks) (fun _ _ => sortedAll_old) (Nat.le_succ _) ⟨hlen', out, ep, rel_each he, hat⟩, rfl, q _ (I.hok.fresh (Nat.le_succ _))⟩
/-! by data -/
theorem sort_is {l m : List Dat} (hp : m.Perm l) (hs : m.Pairwise fun a b => dataLe false py a b = true ∧ dataLe false py b a = false) : l.mergeSort (dataLe false py) = m := by
  have T := PySem.W.sortLe_total (listOrd itemOrd) false fun b : Dat => PySem.W.keyToks (py b)
  refine List.Perm.eq_of_pairwise (le := fun a b => dataLe false py a b = true) (fun a b ha hb h1 h2 => ?_) (PySem.W.sort_pairwise T l) (hs.imp fun h => h.1) ((List.mergeSort_perm l _).trans hp.symm)
  have ha' : a ∈ m := hp.mem_iff.mpr ((List.mergeSort_perm l _).mem_iff.mp ha)
  obtain ⟨i, hi, rfl⟩ := List.getElem_of_mem ha'
  obtain ⟨j, hj, rfl⟩ := List.getElem_of_mem hb
  rw [List.pairwise_iff_getElem] at hs
  rcases Nat.lt_trichotomy i j with z | z | z
  · have := (hs i j hi hj z).2
    rw [this] at h2; cases h2
  · subst z; rfl
  · have := (hs j i hj hi z).2
    rw [this] at h1; cases h1
section
variable {K : PySem.W.Frag} {te : TE} {env : Env1} {S S1 ds out : List Dat} {x : Sl} {m : Nat}
theorem en_sortDat (h : Ev K te env S x S1) (hx : SeqL S1 x ds) (hp : ∀ d ∈ ds, Pl m d) (hm : m ≤ 60) (hal : AllAlike (ds.map py)) (hso : Sortable (ds.map py)) (hl : ds.length ≤ sizeLine) (ho : ds.mergeSort (dataLe false py) = out) : EvN K (tCB (rSortDat K) (tCons te tNil)) env S out S1 := fun B H as σ c g Q q =>
  h B H as σ c g _ fun v B1 H1 c1 e1 r1 => by
    obtain ⟨a, ws, rfl, hq, hr⟩ := hx.read c1 r1
    have hlen := hr.length
    have em1 : (ws.zip ds).map (·.1) = ws := List.map_fst_zip (by omega)
    have em2 : (ws.zip ds).map (·.2) = ds := List.map_snd_zip (by omega)
    have hrp : ∀ p ∈ ws.zip ds, Rep K B1 p.1 p.2 := fun p hp => by
      obtain ⟨i, hi⟩ := List.mem_iff_getElem?.mp hp
      obtain ⟨v, d⟩ := p
      obtain ⟨h1, h2⟩ := List.getElem?_zip_eq_some.mp hi
      obtain ⟨v', e, r⟩ := hr.get h2
      rw [h1] at e; cases e; exact r
    have em3 : (ws.zip ds).map (fun p => py p.2) = ds.map py := by
      conv => rhs; rw [← em2, List.map_map]
      rfl
    refine ⟨a, ws.zip ds, rfl, Evl.sq_of (by rw [em1]; exact hq), fun p hp' => (hp p.2 (by rw [← em2]; exact List.mem_map.mpr ⟨p, hp', rfl⟩)).dp p.1 ((hrp p hp').mono c1.ex), by rw [em3]; exact hal, by rw [em3]; exact hso, fun p hp' => Nat.le_trans (hp p.2 (by rw [← em2]; exact List.mem_map.mpr ⟨p, hp', rfl⟩)).lay.2 hm, by rw [List.length_zip]; omega, fun l hl' => ?_⟩
    have eo : ((ws.zip ds).mergeSort (dataLe false fun p => py p.2)).map (·.2) = out := by
      have e := List.map_mergeSort (r := dataLe false fun p : V × Dat => py p.2) (s := dataLe false py) (f := fun p : V × Dat => p.2) (l := ws.zip ds) fun a _ b _ => rfl
      rw [em2, ho] at e
      exact e
    have hrs : ∀ L : List (V × Dat), (∀ p ∈ L, Rep K B1 p.1 p.2) → Reps K B1 (L.map (·.1)) (L.map (·.2)) := fun L => by
      induction L with
      | nil => intro _; exact .nil
      | cons p L ih => intro h; exact .cons (h p List.mem_cons_self) (ih fun q hq => h q (List.mem_cons_of_mem _ hq))
    have hR := hrs ((ws.zip ds).mergeSort (dataLe false fun p => py p.2)) fun p hp' => hrp p ((List.mergeSort_perm _ _).mem_iff.mp hp')
    rw [eo] at hR
    exact evn_new c c1 e1 hl' hR q
end
/-! ### max(xs, default=n), xs not empty -/
def rMaxDf (K : PySem.W.Frag) : List V → List V → Hp → VK → Prop := fun vs zs H Q => ∃ (a : Addr) (x : Int) (xs : List Int) (i : Int), vs = [V.ref a] ∧ zs = [.int i] ∧ SqL K H a ((x :: xs).map V.int) ∧ Q (.int (mxL (x :: xs))) H
theorem cr_maxDf {X : Cx} (K : PySem.W.Frag) (hu : X.A.units + 64 < cLine) (hc : X.calm = true := by rfl) (hK : X.K = K := by rfl) : CallRK X (.builtin "max") [Str.ofString "default"] (rMaxDf K) := by
  subst hK
  intro pins s σ H vs zs us ws Q I r rz h
  obtain ⟨a, x, xs, i0, rfl, rfl, hs, q⟩ := h
  have hu2 : X.A.units + 1 + PyData.depthAll (PyData.int x :: xs.map PyData.int) < cLine := by
    have : PyData.depthAll (PyData.int x :: xs.map PyData.int) = 0 := depth_ints (x :: xs)
    omega
  rw [Vals.ref1 r]
  obtain ⟨w, rfl, rw'⟩ : ∃ w, ws = [w] ∧ RelV (.int i0) w := by
    cases rz with
    | cons h t => cases t; exact ⟨_, rfl, h⟩
  obtain ⟨as, r1⟩ := Dp.reads I (.list ((x :: xs).map .int)) (.ref a) (.ref a) (.lst hs (dp_ints _)) rfl
  cases r1 with
  | list h1 h2 h3 h4 =>
    refine PySem.W.max_list_default (I.ok.hd hc) ⟨_, h1, h2, _, h3⟩ h4 (alike_ints (x :: xs)) hu2 (fun z => by cases z) fun y ys i v h' tk bs e hv hr hk => ?_
    cases e
    refine ⟨.int (mxL (x :: xs)), H, I.kept hk, ?_, q⟩
    rw [PySem.W.maxD_ints, mxL_fold] at hr
    cases hr
    exact ⟨_, rfl⟩
theorem pe_maxDf {X : Cx} (K : PySem.W.Frag) {a d : Expr} {ta : TE} {p pos kp : Pos} {i : Int} (hu : X.A.units + 64 < cLine) (hg : Gl X "max") (hm : X.mg "max" = none) (ha : PE X a ta) (hk : PE X d (tC (.int i)))
    (hs : starEach [a] X.env = (false, eval a X.env) :: starEach [] X.env := by rfl) (he : backTo pos (starEach [a] X.env) = (false, eval a X.env) :: backTo pos (starEach [] X.env) := by rfl) (hpl : (backTo pos (starEach [a] X.env)).any (·.1) = false := by rfl)
    (hall : (backToKw pos (keywordEach [⟨some (Str.ofString "default"), d, kp⟩] X.env)).all (·.1.isSome) = true := by rfl) (hnone : (backToKw pos (keywordEach [⟨some (Str.ofString "default"), d, kp⟩] X.env)).any (·.1.isNone) = false := by rfl) (hks : (backToKw pos (keywordEach [⟨some (Str.ofString "default"), d, kp⟩] X.env)).filterMap (·.1) = [Str.ofString "default"] := by rfl) (hc : X.calm = true := by rfl) (hK : X.K = K := by rfl) :
    PE X (.Call (.Name "max" p) [a] [⟨some (Str.ofString "default"), d, kp⟩] pos) (tCKw (rMaxDf K) (tCons ta tNil) (tCons (tC (.int i)) tNil)) :=
  pe_callBK (cr_maxDf K hu hc hK) hg hm (by decide +kernel) (pa_cons ha pa_nil (hs := hs)) (pk_cons hk pk_nil) (he := he) (hpl := hpl) (hall := hall) (hnone := hnone) (hks := hks)
theorem ev_maxDf {K : PySem.W.Frag} {te : TE} {env : Env1} {S S1 : List Dat} {x : Int} {xs : List Int} {i : Int} {y : Sl} (h : Ev K te env S y S1) (hx : SeqL S1 y ((x :: xs).map Dat.int)) : Ev K (tCKw (rMaxDf K) (tCons te tNil) (tCons (tC (.int i)) tNil)) env S (.d (.int (mxL (x :: xs)))) S1 := fun B H as σ c g Q q =>
  h B H as σ c g _ fun v B1 H1 c1 e1 r1 => by
    obtain ⟨a, ws, rfl, hq, hr⟩ := hx.read c1 r1
    have := hr.ints
    subst this
    exact ⟨a, x, xs, i, rfl, rfl, Evl.sq_of hq, q _ B1 H1 c1 e1 (.int _)⟩
section
variable {K : PySem.W.Frag} {n : Nat} {tA : TA} {u : TS} {env : Env1} {S S1 : List Dat} {x y z : Sl} {P : Post}
/-- a, b = e1, e2 (last in its block); a, b, c = e1, e2, e3 -/
theorem sp_par1 {i j : Nat} (h : EvA K tA env S [x, y] S1) (k : P.nx ((env.set i (some x)).set j (some y)) S1) : SP K n (tPar i j tA) env S P := fun B0 H0 as0 Bk B H as σ hl f c g D m =>
  h B H as σ c g _ fun vs B1 H1 c1 e1 r1 => by
    cases r1 with
    | cons r1 rr =>
      cases rr with
      | cons r2 rr =>
        cases rr
        exact ⟨_, _, rfl, m.nx _ S1 B1 H1 as _ (f.step e1) c1 (((g.mono e1.ex).set i r1).set j r2) k⟩
theorem sp_par3 {i j l : Nat} (h : EvA K tA env S [x, y, z] S1) (k : SP K n u (((env.set i (some x)).set j (some y)).set l (some z)) S1 P) : SP K n (tSeq (tPar3 i j l tA) u) env S P := fun B0 H0 as0 Bk B H as σ hl f c g D m =>
  h B H as σ c g _ fun vs B1 H1 c1 e1 r1 => by
    cases r1 with
    | cons r1 rr =>
      cases rr with
      | cons r2 rr =>
        cases rr with
        | cons r3 rr =>
          cases rr
          exact ⟨_, _, _, rfl, k B0 H0 as0 Bk B1 H1 as _ hl (f.step e1) c1 ((((g.mono e1.ex).set i r1).set j r2).set l r3) D m⟩
end
end RW

set_option Elab.async false
set_option linter.all false
set_option maxRecDepth 100000
set_option maxHeartbeats 4000000
namespace N46
open PySem PySem.Spec PyProof.Rows L2 RW

/-! the text by places -/
def top (i : Nat) : Stmt := PySem.Challenge.pw_rampworks_k46_errors_of_fans.main.body.getD i (.Pass ⟨0, 0, 0, 0⟩)
abbrev s_TooManyu_initu : Stmt := inClass (top 6) 0
theorem sc_TooManyu_initu : FnScope ["self", "limit"] ["self", "limit"] (defScope s_TooManyu_initu) := ⟨rfl, rfl, rfl, by decide +kernel, rfl, by decide +kernel, by decide +kernel⟩
abbrev s_is_whole : Stmt := top 10
theorem sc_is_whole : FnScope ["value"] ["value"] (defScope s_is_whole) := ⟨rfl, rfl, rfl, by decide +kernel, rfl, by decide +kernel, by decide +kernel⟩
abbrev s_are_short : Stmt := top 11
theorem sc_are_short : FnScope ["values", "x"] ["values"] (defScope s_are_short) := ⟨rfl, rfl, rfl, by decide +kernel, rfl, by decide +kernel, by decide +kernel⟩
abbrev s_are_whole : Stmt := top 12
theorem sc_are_whole : FnScope ["values", "x"] ["values"] (defScope s_are_whole) := ⟨rfl, rfl, rfl, by decide +kernel, rfl, by decide +kernel, by decide +kernel⟩
abbrev s_is_short_row : Stmt := top 13
theorem sc_is_short_row : FnScope ["value", "least", "most"] ["value", "least", "most"] (defScope s_is_short_row) := ⟨rfl, rfl, rfl, by decide +kernel, rfl, by decide +kernel, by decide +kernel⟩
abbrev s_is_whole_row : Stmt := top 14
theorem sc_is_whole_row : FnScope ["value", "many"] ["value", "many"] (defScope s_is_whole_row) := ⟨rfl, rfl, rfl, by decide +kernel, rfl, by decide +kernel, by decide +kernel⟩
abbrev s_are_short_rows : Stmt := top 15
theorem sc_are_short_rows : FnScope ["value", "most_rows", "most_length", "length", "row", "x"] ["value", "most_rows", "most_length"] (defScope s_are_short_rows) := ⟨rfl, rfl, rfl, by decide +kernel, rfl, by decide +kernel, by decide +kernel⟩
abbrev s_are_ascending : Stmt := top 16
theorem sc_are_ascending : FnScope ["values", "last", "value"] ["values"] (defScope s_are_ascending) := ⟨rfl, rfl, rfl, by decide +kernel, rfl, by decide +kernel, by decide +kernel⟩
abbrev s_product_of : Stmt := top 18
theorem sc_product_of : FnScope ["one", "other", "x", "y"] ["one", "other"] (defScope s_product_of) := ⟨rfl, rfl, rfl, by decide +kernel, rfl, by decide +kernel, by decide +kernel⟩
abbrev s_bezout : Stmt := top 24
theorem sc_bezout : FnScope ["one", "other", "g", "s", "t", "rest", "down", "across", "many"] ["one", "other"] (defScope s_bezout) := ⟨rfl, rfl, rfl, by decide +kernel, rfl, by decide +kernel, by decide +kernel⟩
abbrev s_is_lot : Stmt := top 28
theorem sc_is_lot : FnScope ["value"] ["value"] (defScope s_is_lot) := ⟨rfl, rfl, rfl, by decide +kernel, rfl, by decide +kernel, by decide +kernel⟩
abbrev s_is_reading : Stmt := top 30
theorem sc_is_reading : FnScope ["value"] ["value"] (defScope s_is_reading) := ⟨rfl, rfl, rfl, by decide +kernel, rfl, by decide +kernel, by decide +kernel⟩
abbrev s_need_reading : Stmt := top 31
theorem sc_need_reading : FnScope ["reading"] ["reading"] (defScope s_need_reading) := ⟨rfl, rfl, rfl, by decide +kernel, rfl, by decide +kernel, by decide +kernel⟩
abbrev s_det : Stmt := top 33
theorem sc_det : FnScope ["one", "other"] ["one", "other"] (defScope s_det) := ⟨rfl, rfl, rfl, by decide +kernel, rfl, by decide +kernel, by decide +kernel⟩
abbrev s_quarter_of : Stmt := top 34
theorem sc_quarter_of : FnScope ["row", "x", "y"] ["row"] (defScope s_quarter_of) := ⟨rfl, rfl, rfl, by decide +kernel, rfl, by decide +kernel, by decide +kernel⟩
abbrev s_is_ahead : Stmt := top 35
theorem sc_is_ahead : FnScope ["one", "other", "first", "second"] ["one", "other"] (defScope s_is_ahead) := ⟨rfl, rfl, rfl, by decide +kernel, rfl, by decide +kernel, by decide +kernel⟩
abbrev s_are_in_turn : Stmt := top 36
theorem sc_are_in_turn : FnScope ["rows", "one", "other"] ["rows"] (defScope s_are_in_turn) := ⟨rfl, rfl, rfl, by decide +kernel, rfl, by decide +kernel, by decide +kernel⟩
abbrev s_turn_key : Stmt := top 37
theorem sc_turn_key : FnScope ["row", "size", "x", "y", "quarter"] ["row", "size"] (defScope s_turn_key) := ⟨rfl, rfl, rfl, by decide +kernel, rfl, by decide +kernel, by decide +kernel⟩
abbrev s_in_turn : Stmt := top 38
theorem sc_in_turn : FnScope ["rows", "greatest", "row", "x", "keyed", "_"] ["rows"] (defScope s_in_turn) := ⟨rfl, rfl, rfl, by decide +kernel, rfl, by decide +kernel, by decide +kernel⟩
abbrev s_next_ray : Stmt := top 39
theorem sc_next_ray : FnScope ["ray", "other", "_", "up", "across", "row", "many"] ["ray", "other"] (defScope s_next_ray) := ⟨rfl, rfl, rfl, by decide +kernel, rfl, by decide +kernel, by decide +kernel⟩
abbrev s_rays_between : Stmt := top 40
theorem sc_rays_between : FnScope ["ray", "other", "most", "found", "last"] ["ray", "other", "most"] (defScope s_rays_between) := ⟨rfl, rfl, rfl, by decide +kernel, rfl, by decide +kernel, by decide +kernel⟩
abbrev s_smoothed : Stmt := top 41
theorem sc_smoothed : FnScope ["rays", "most", "found", "ray", "other", "between"] ["rays", "most"] (defScope s_smoothed) := ⟨rfl, rfl, rfl, by decide +kernel, rfl, by decide +kernel, by decide +kernel⟩
abbrev s_is_ray : Stmt := top 51
theorem sc_is_ray : FnScope ["value"] ["value"] (defScope s_is_ray) := ⟨rfl, rfl, rfl, by decide +kernel, rfl, by decide +kernel, by decide +kernel⟩
abbrev s_are_bends : Stmt := top 52
theorem sc_are_bends : FnScope ["value", "pair", "ray", "_"] ["value"] (defScope s_are_bends) := ⟨rfl, rfl, rfl, by decide +kernel, rfl, by decide +kernel, by decide +kernel⟩
abbrev s_is_round : Stmt := top 53
theorem sc_is_round : FnScope ["value", "ray", "c"] ["value"] (defScope s_is_round) := ⟨rfl, rfl, rfl, by decide +kernel, rfl, by decide +kernel, by decide +kernel⟩
abbrev s_is_smooth : Stmt := top 54
theorem sc_is_smooth : FnScope ["value", "ray", "one", "other"] ["value"] (defScope s_is_smooth) := ⟨rfl, rfl, rfl, by decide +kernel, rfl, by decide +kernel, by decide +kernel⟩
abbrev s_need_told : Stmt := top 55
theorem sc_need_told : FnScope ["told", "ray", "c"] ["told"] (defScope s_need_told) := ⟨rfl, rfl, rfl, by decide +kernel, rfl, by decide +kernel, by decide +kernel⟩
abbrev s_need_ray : Stmt := top 56
theorem sc_need_ray : FnScope ["ray"] ["ray"] (defScope s_need_ray) := ⟨rfl, rfl, rfl, by decide +kernel, rfl, by decide +kernel, by decide +kernel⟩
abbrev s_need_fan : Stmt := top 57
theorem sc_need_fan : FnScope ["fan", "ray"] ["fan"] (defScope s_need_fan) := ⟨rfl, rfl, rfl, by decide +kernel, rfl, by decide +kernel, by decide +kernel⟩
abbrev s_need_plane_row : Stmt := top 58
theorem sc_need_plane_row : FnScope ["row"] ["row"] (defScope s_need_plane_row) := ⟨rfl, rfl, rfl, by decide +kernel, rfl, by decide +kernel, by decide +kernel⟩
abbrev s_need_plane_reading : Stmt := top 59
theorem sc_need_plane_reading : FnScope ["reading"] ["reading"] (defScope s_need_plane_reading) := ⟨rfl, rfl, rfl, by decide +kernel, rfl, by decide +kernel, by decide +kernel⟩
abbrev s_round_of : Stmt := top 61
theorem sc_round_of : FnScope ["reading"] ["reading"] (defScope s_round_of) := ⟨rfl, rfl, rfl, by decide +kernel, rfl, by decide +kernel, by decide +kernel⟩
abbrev s_forms_behind : Stmt := top 62
theorem sc_forms_behind : FnScope ["told", "rows", "form", "bends", "at", "found", "x", "y", "row", "ray", "c"] ["told", "rows"] (defScope s_forms_behind) := ⟨rfl, rfl, rfl, by decide +kernel, rfl, by decide +kernel, by decide +kernel⟩
abbrev s_value_of_round : Stmt := top 63
theorem sc_value_of_round : FnScope ["told", "row"] ["told", "row"] (defScope s_value_of_round) := ⟨rfl, rfl, rfl, by decide +kernel, rfl, by decide +kernel, by decide +kernel⟩
abbrev s_form_behind : Stmt := top 64
theorem sc_form_behind : FnScope ["told", "row"] ["told", "row"] (defScope s_form_behind) := ⟨rfl, rfl, rfl, by decide +kernel, rfl, by decide +kernel, by decide +kernel⟩
abbrev s_put_between : Stmt := top 65
theorem sc_put_between : FnScope ["ray", "other", "found"] ["ray", "other"] (defScope s_put_between) := ⟨rfl, rfl, rfl, by decide +kernel, rfl, by decide +kernel, by decide +kernel⟩
abbrev s_smooth_fan : Stmt := top 66
theorem sc_smooth_fan : FnScope ["rays", "ray", "found"] ["rays"] (defScope s_smooth_fan) := ⟨rfl, rfl, rfl, by decide +kernel, rfl, by decide +kernel, by decide +kernel⟩
abbrev s_values_on : Stmt := top 67
theorem sc_values_on : FnScope ["told", "fan", "form", "ray"] ["told", "fan"] (defScope s_values_on) := ⟨rfl, rfl, rfl, by decide +kernel, rfl, by decide +kernel, by decide +kernel⟩
abbrev s_round_by_values : Stmt := top 69
theorem sc_round_by_values : FnScope ["fan", "values", "many", "bends", "at", "ray", "last", "further", "c", "first", "form"] ["fan", "values"] (defScope s_round_by_values) := ⟨rfl, rfl, rfl, by decide +kernel, rfl, by decide +kernel, by decide +kernel⟩
abbrev s__law_pack : Stmt := top 71
theorem sc__law_pack : FnScope ["script", "spot", "cell", "great"] ["script", "spot"] (defScope s__law_pack) := ⟨rfl, rfl, rfl, by decide +kernel, rfl, by decide +kernel, by decide +kernel⟩
abbrev s__law_dealt : Stmt := top 72
theorem sc__law_dealt : FnScope ["pack", "total", "found", "one", "two"] ["pack", "total"] (defScope s__law_dealt) := ⟨rfl, rfl, rfl, by decide +kernel, rfl, by decide +kernel, by decide +kernel⟩
abbrev s__law_one_of : Stmt := top 73
theorem sc__law_one_of : FnScope ["pack", "items"] ["pack", "items"] (defScope s__law_one_of) := ⟨rfl, rfl, rfl, by decide +kernel, rfl, by decide +kernel, by decide +kernel⟩
abbrev s__law_due : Stmt := top 74
theorem sc__law_due : FnScope ["words", "word"] ["words"] (defScope s__law_due) := ⟨rfl, rfl, rfl, by decide +kernel, rfl, by decide +kernel, by decide +kernel⟩
abbrev s__law_word : Stmt := top 75
theorem sc__law_word : FnScope ["call", "error"] ["call"] (defScope s__law_word) := ⟨rfl, rfl, rfl, by decide +kernel, rfl, by decide +kernel, by decide +kernel⟩
abbrev s__law_right : Stmt := top 76
theorem sc__law_right : FnScope ["pack", "none", "far", "odd", "good", "row", "ray", "fan", "three", "values", "rays", "at", "told", "due"] ["pack"] (defScope s__law_right) := ⟨rfl, rfl, rfl, by decide +kernel, rfl, by decide +kernel, by decide +kernel⟩
abbrev s_law : Stmt := top 77
theorem sc_law : FnScope ["script", "spot", "pack", "bends", "at", "long", "told"] ["script"] (defScope s_law) := ⟨rfl, rfl, rfl, by decide +kernel, rfl, by decide +kernel, by decide +kernel⟩
structure Txt (K : PySem.W.Frag) (mg : Str → Option Value) where
  a_TooManyu_initu : Addr
  d_TooManyu_initu : FuncData
  F_TooManyu_initu : Fun K "__init__" "TooMany.__init__" s_TooManyu_initu a_TooManyu_initu d_TooManyu_initu
  b_TooManyu_initu : Binds K d_TooManyu_initu ["self", "limit"] []
  a_is_whole : Addr
  d_is_whole : FuncData
  F_is_whole : Fun K "is_whole" "is_whole" s_is_whole a_is_whole d_is_whole
  b_is_whole : Binds K d_is_whole ["value"] []
  m_is_whole : mg "is_whole" = some (.ref a_is_whole)
  k_is_whole : PySem.W.keepIn K (.ref a_is_whole) = true
  a_are_short : Addr
  d_are_short : FuncData
  F_are_short : Fun K "are_short" "are_short" s_are_short a_are_short d_are_short
  b_are_short : Binds K d_are_short ["values"] []
  m_are_short : mg "are_short" = some (.ref a_are_short)
  k_are_short : PySem.W.keepIn K (.ref a_are_short) = true
  a_are_whole : Addr
  d_are_whole : FuncData
  F_are_whole : Fun K "are_whole" "are_whole" s_are_whole a_are_whole d_are_whole
  b_are_whole : Binds K d_are_whole ["values"] []
  m_are_whole : mg "are_whole" = some (.ref a_are_whole)
  k_are_whole : PySem.W.keepIn K (.ref a_are_whole) = true
  a_is_short_row : Addr
  d_is_short_row : FuncData
  F_is_short_row : Fun K "is_short_row" "is_short_row" s_is_short_row a_is_short_row d_is_short_row
  b_is_short_row : Binds K d_is_short_row ["value", "least", "most"] []
  m_is_short_row : mg "is_short_row" = some (.ref a_is_short_row)
  k_is_short_row : PySem.W.keepIn K (.ref a_is_short_row) = true
  a_is_whole_row : Addr
  d_is_whole_row : FuncData
  F_is_whole_row : Fun K "is_whole_row" "is_whole_row" s_is_whole_row a_is_whole_row d_is_whole_row
  b_is_whole_row : Binds K d_is_whole_row ["value", "many"] []
  m_is_whole_row : mg "is_whole_row" = some (.ref a_is_whole_row)
  k_is_whole_row : PySem.W.keepIn K (.ref a_is_whole_row) = true
  a_are_short_rows : Addr
  d_are_short_rows : FuncData
  F_are_short_rows : Fun K "are_short_rows" "are_short_rows" s_are_short_rows a_are_short_rows d_are_short_rows
  b_are_short_rows : Binds K d_are_short_rows ["value", "most_rows", "most_length"] []
  m_are_short_rows : mg "are_short_rows" = some (.ref a_are_short_rows)
  k_are_short_rows : PySem.W.keepIn K (.ref a_are_short_rows) = true
  a_are_ascending : Addr
  d_are_ascending : FuncData
  F_are_ascending : Fun K "are_ascending" "are_ascending" s_are_ascending a_are_ascending d_are_ascending
  b_are_ascending : Binds K d_are_ascending ["values"] []
  m_are_ascending : mg "are_ascending" = some (.ref a_are_ascending)
  k_are_ascending : PySem.W.keepIn K (.ref a_are_ascending) = true
  a_product_of : Addr
  d_product_of : FuncData
  F_product_of : Fun K "product_of" "product_of" s_product_of a_product_of d_product_of
  b_product_of : Binds K d_product_of ["one", "other"] []
  m_product_of : mg "product_of" = some (.ref a_product_of)
  k_product_of : PySem.W.keepIn K (.ref a_product_of) = true
  a_bezout : Addr
  d_bezout : FuncData
  F_bezout : Fun K "bezout" "bezout" s_bezout a_bezout d_bezout
  b_bezout : Binds K d_bezout ["one", "other"] []
  m_bezout : mg "bezout" = some (.ref a_bezout)
  k_bezout : PySem.W.keepIn K (.ref a_bezout) = true
  a_is_lot : Addr
  d_is_lot : FuncData
  F_is_lot : Fun K "is_lot" "is_lot" s_is_lot a_is_lot d_is_lot
  b_is_lot : Binds K d_is_lot ["value"] []
  m_is_lot : mg "is_lot" = some (.ref a_is_lot)
  k_is_lot : PySem.W.keepIn K (.ref a_is_lot) = true
  a_is_reading : Addr
  d_is_reading : FuncData
  F_is_reading : Fun K "is_reading" "is_reading" s_is_reading a_is_reading d_is_reading
  b_is_reading : Binds K d_is_reading ["value"] []
  m_is_reading : mg "is_reading" = some (.ref a_is_reading)
  k_is_reading : PySem.W.keepIn K (.ref a_is_reading) = true
  a_need_reading : Addr
  d_need_reading : FuncData
  F_need_reading : Fun K "need_reading" "need_reading" s_need_reading a_need_reading d_need_reading
  b_need_reading : Binds K d_need_reading ["reading"] []
  m_need_reading : mg "need_reading" = some (.ref a_need_reading)
  k_need_reading : PySem.W.keepIn K (.ref a_need_reading) = true
  a_det : Addr
  d_det : FuncData
  F_det : Fun K "det" "det" s_det a_det d_det
  b_det : Binds K d_det ["one", "other"] []
  m_det : mg "det" = some (.ref a_det)
  k_det : PySem.W.keepIn K (.ref a_det) = true
  a_quarter_of : Addr
  d_quarter_of : FuncData
  F_quarter_of : Fun K "quarter_of" "quarter_of" s_quarter_of a_quarter_of d_quarter_of
  b_quarter_of : Binds K d_quarter_of ["row"] []
  m_quarter_of : mg "quarter_of" = some (.ref a_quarter_of)
  k_quarter_of : PySem.W.keepIn K (.ref a_quarter_of) = true
  a_is_ahead : Addr
  d_is_ahead : FuncData
  F_is_ahead : Fun K "is_ahead" "is_ahead" s_is_ahead a_is_ahead d_is_ahead
  b_is_ahead : Binds K d_is_ahead ["one", "other"] []
  m_is_ahead : mg "is_ahead" = some (.ref a_is_ahead)
  k_is_ahead : PySem.W.keepIn K (.ref a_is_ahead) = true
  a_are_in_turn : Addr
  d_are_in_turn : FuncData
  F_are_in_turn : Fun K "are_in_turn" "are_in_turn" s_are_in_turn a_are_in_turn d_are_in_turn
  b_are_in_turn : Binds K d_are_in_turn ["rows"] []
  m_are_in_turn : mg "are_in_turn" = some (.ref a_are_in_turn)
  k_are_in_turn : PySem.W.keepIn K (.ref a_are_in_turn) = true
  a_turn_key : Addr
  d_turn_key : FuncData
  F_turn_key : Fun K "turn_key" "turn_key" s_turn_key a_turn_key d_turn_key
  b_turn_key : Binds K d_turn_key ["row", "size"] []
  m_turn_key : mg "turn_key" = some (.ref a_turn_key)
  k_turn_key : PySem.W.keepIn K (.ref a_turn_key) = true
  a_in_turn : Addr
  d_in_turn : FuncData
  F_in_turn : Fun K "in_turn" "in_turn" s_in_turn a_in_turn d_in_turn
  b_in_turn : Binds K d_in_turn ["rows"] []
  m_in_turn : mg "in_turn" = some (.ref a_in_turn)
  k_in_turn : PySem.W.keepIn K (.ref a_in_turn) = true
  a_next_ray : Addr
  d_next_ray : FuncData
  F_next_ray : Fun K "next_ray" "next_ray" s_next_ray a_next_ray d_next_ray
  b_next_ray : Binds K d_next_ray ["ray", "other"] []
  m_next_ray : mg "next_ray" = some (.ref a_next_ray)
  k_next_ray : PySem.W.keepIn K (.ref a_next_ray) = true
  a_rays_between : Addr
  d_rays_between : FuncData
  F_rays_between : Fun K "rays_between" "rays_between" s_rays_between a_rays_between d_rays_between
  b_rays_between : Binds K d_rays_between ["ray", "other", "most"] []
  m_rays_between : mg "rays_between" = some (.ref a_rays_between)
  k_rays_between : PySem.W.keepIn K (.ref a_rays_between) = true
  a_smoothed : Addr
  d_smoothed : FuncData
  F_smoothed : Fun K "smoothed" "smoothed" s_smoothed a_smoothed d_smoothed
  b_smoothed : Binds K d_smoothed ["rays", "most"] []
  m_smoothed : mg "smoothed" = some (.ref a_smoothed)
  k_smoothed : PySem.W.keepIn K (.ref a_smoothed) = true
  a_is_ray : Addr
  d_is_ray : FuncData
  F_is_ray : Fun K "is_ray" "is_ray" s_is_ray a_is_ray d_is_ray
  b_is_ray : Binds K d_is_ray ["value"] []
  m_is_ray : mg "is_ray" = some (.ref a_is_ray)
  k_is_ray : PySem.W.keepIn K (.ref a_is_ray) = true
  a_are_bends : Addr
  d_are_bends : FuncData
  F_are_bends : Fun K "are_bends" "are_bends" s_are_bends a_are_bends d_are_bends
  b_are_bends : Binds K d_are_bends ["value"] []
  m_are_bends : mg "are_bends" = some (.ref a_are_bends)
  k_are_bends : PySem.W.keepIn K (.ref a_are_bends) = true
  a_is_round : Addr
  d_is_round : FuncData
  F_is_round : Fun K "is_round" "is_round" s_is_round a_is_round d_is_round
  b_is_round : Binds K d_is_round ["value"] []
  m_is_round : mg "is_round" = some (.ref a_is_round)
  k_is_round : PySem.W.keepIn K (.ref a_is_round) = true
  a_is_smooth : Addr
  d_is_smooth : FuncData
  F_is_smooth : Fun K "is_smooth" "is_smooth" s_is_smooth a_is_smooth d_is_smooth
  b_is_smooth : Binds K d_is_smooth ["value"] []
  m_is_smooth : mg "is_smooth" = some (.ref a_is_smooth)
  k_is_smooth : PySem.W.keepIn K (.ref a_is_smooth) = true
  a_need_told : Addr
  d_need_told : FuncData
  F_need_told : Fun K "need_told" "need_told" s_need_told a_need_told d_need_told
  b_need_told : Binds K d_need_told ["told"] []
  m_need_told : mg "need_told" = some (.ref a_need_told)
  k_need_told : PySem.W.keepIn K (.ref a_need_told) = true
  a_need_ray : Addr
  d_need_ray : FuncData
  F_need_ray : Fun K "need_ray" "need_ray" s_need_ray a_need_ray d_need_ray
  b_need_ray : Binds K d_need_ray ["ray"] []
  m_need_ray : mg "need_ray" = some (.ref a_need_ray)
  k_need_ray : PySem.W.keepIn K (.ref a_need_ray) = true
  a_need_fan : Addr
  d_need_fan : FuncData
  F_need_fan : Fun K "need_fan" "need_fan" s_need_fan a_need_fan d_need_fan
  b_need_fan : Binds K d_need_fan ["fan"] []
  m_need_fan : mg "need_fan" = some (.ref a_need_fan)
  k_need_fan : PySem.W.keepIn K (.ref a_need_fan) = true
  a_need_plane_row : Addr
  d_need_plane_row : FuncData
  F_need_plane_row : Fun K "need_plane_row" "need_plane_row" s_need_plane_row a_need_plane_row d_need_plane_row
  b_need_plane_row : Binds K d_need_plane_row ["row"] []
  m_need_plane_row : mg "need_plane_row" = some (.ref a_need_plane_row)
  k_need_plane_row : PySem.W.keepIn K (.ref a_need_plane_row) = true
  a_need_plane_reading : Addr
  d_need_plane_reading : FuncData
  F_need_plane_reading : Fun K "need_plane_reading" "need_plane_reading" s_need_plane_reading a_need_plane_reading d_need_plane_reading
  b_need_plane_reading : Binds K d_need_plane_reading ["reading"] []
  m_need_plane_reading : mg "need_plane_reading" = some (.ref a_need_plane_reading)
  k_need_plane_reading : PySem.W.keepIn K (.ref a_need_plane_reading) = true
  a_round_of : Addr
  d_round_of : FuncData
  F_round_of : Fun K "round_of" "round_of" s_round_of a_round_of d_round_of
  b_round_of : Binds K d_round_of ["reading"] []
  m_round_of : mg "round_of" = some (.ref a_round_of)
  k_round_of : PySem.W.keepIn K (.ref a_round_of) = true
  a_forms_behind : Addr
  d_forms_behind : FuncData
  F_forms_behind : Fun K "forms_behind" "forms_behind" s_forms_behind a_forms_behind d_forms_behind
  b_forms_behind : Binds K d_forms_behind ["told", "rows"] []
  m_forms_behind : mg "forms_behind" = some (.ref a_forms_behind)
  k_forms_behind : PySem.W.keepIn K (.ref a_forms_behind) = true
  a_value_of_round : Addr
  d_value_of_round : FuncData
  F_value_of_round : Fun K "value_of_round" "value_of_round" s_value_of_round a_value_of_round d_value_of_round
  b_value_of_round : Binds K d_value_of_round ["told", "row"] []
  m_value_of_round : mg "value_of_round" = some (.ref a_value_of_round)
  k_value_of_round : PySem.W.keepIn K (.ref a_value_of_round) = true
  a_form_behind : Addr
  d_form_behind : FuncData
  F_form_behind : Fun K "form_behind" "form_behind" s_form_behind a_form_behind d_form_behind
  b_form_behind : Binds K d_form_behind ["told", "row"] []
  m_form_behind : mg "form_behind" = some (.ref a_form_behind)
  k_form_behind : PySem.W.keepIn K (.ref a_form_behind) = true
  a_put_between : Addr
  d_put_between : FuncData
  F_put_between : Fun K "put_between" "put_between" s_put_between a_put_between d_put_between
  b_put_between : Binds K d_put_between ["ray", "other"] []
  m_put_between : mg "put_between" = some (.ref a_put_between)
  k_put_between : PySem.W.keepIn K (.ref a_put_between) = true
  a_smooth_fan : Addr
  d_smooth_fan : FuncData
  F_smooth_fan : Fun K "smooth_fan" "smooth_fan" s_smooth_fan a_smooth_fan d_smooth_fan
  b_smooth_fan : Binds K d_smooth_fan ["rays"] []
  m_smooth_fan : mg "smooth_fan" = some (.ref a_smooth_fan)
  k_smooth_fan : PySem.W.keepIn K (.ref a_smooth_fan) = true
  a_values_on : Addr
  d_values_on : FuncData
  F_values_on : Fun K "values_on" "values_on" s_values_on a_values_on d_values_on
  b_values_on : Binds K d_values_on ["told", "fan"] []
  m_values_on : mg "values_on" = some (.ref a_values_on)
  k_values_on : PySem.W.keepIn K (.ref a_values_on) = true
  a_round_by_values : Addr
  d_round_by_values : FuncData
  F_round_by_values : Fun K "round_by_values" "round_by_values" s_round_by_values a_round_by_values d_round_by_values
  b_round_by_values : Binds K d_round_by_values ["fan", "values"] []
  m_round_by_values : mg "round_by_values" = some (.ref a_round_by_values)
  k_round_by_values : PySem.W.keepIn K (.ref a_round_by_values) = true
  a__law_pack : Addr
  d__law_pack : FuncData
  F__law_pack : Fun K "_law_pack" "_law_pack" s__law_pack a__law_pack d__law_pack
  b__law_pack : Binds K d__law_pack ["script", "spot"] []
  m__law_pack : mg "_law_pack" = some (.ref a__law_pack)
  k__law_pack : PySem.W.keepIn K (.ref a__law_pack) = true
  a__law_dealt : Addr
  d__law_dealt : FuncData
  F__law_dealt : Fun K "_law_dealt" "_law_dealt" s__law_dealt a__law_dealt d__law_dealt
  b__law_dealt : Binds K d__law_dealt ["pack", "total"] []
  m__law_dealt : mg "_law_dealt" = some (.ref a__law_dealt)
  k__law_dealt : PySem.W.keepIn K (.ref a__law_dealt) = true
  a__law_one_of : Addr
  d__law_one_of : FuncData
  F__law_one_of : Fun K "_law_one_of" "_law_one_of" s__law_one_of a__law_one_of d__law_one_of
  b__law_one_of : Binds K d__law_one_of ["pack", "items"] []
  m__law_one_of : mg "_law_one_of" = some (.ref a__law_one_of)
  k__law_one_of : PySem.W.keepIn K (.ref a__law_one_of) = true
  a__law_due : Addr
  d__law_due : FuncData
  F__law_due : Fun K "_law_due" "_law_due" s__law_due a__law_due d__law_due
  b__law_due : Binds K d__law_due ["words"] []
  m__law_due : mg "_law_due" = some (.ref a__law_due)
  k__law_due : PySem.W.keepIn K (.ref a__law_due) = true
  a__law_word : Addr
  d__law_word : FuncData
  F__law_word : Fun K "_law_word" "_law_word" s__law_word a__law_word d__law_word
  b__law_word : Binds K d__law_word ["call"] []
  m__law_word : mg "_law_word" = some (.ref a__law_word)
  k__law_word : PySem.W.keepIn K (.ref a__law_word) = true
  a__law_right : Addr
  d__law_right : FuncData
  F__law_right : Fun K "_law_right" "_law_right" s__law_right a__law_right d__law_right
  b__law_right : Binds K d__law_right ["pack"] []
  m__law_right : mg "_law_right" = some (.ref a__law_right)
  k__law_right : PySem.W.keepIn K (.ref a__law_right) = true
  a_law : Addr
  d_law : FuncData
  F_law : Fun K "law" "law" s_law a_law d_law
  b_law : Binds K d_law ["script"] []
  t_BEYOND : Tok
  m_BEYOND : mg "BEYOND" = some (.int (10 ^ 60) t_BEYOND)
  t_BENEATH : Tok
  m_BENEATH : mg "BENEATH" = some (.int (-(10 ^ 60)) t_BENEATH)
  t_MOST_POINTS : Tok
  m_MOST_POINTS : mg "MOST_POINTS" = some (.int 400 t_MOST_POINTS)
  t_MOST_MEMBERS : Tok
  m_MOST_MEMBERS : mg "MOST_MEMBERS" = some (.int 8 t_MOST_MEMBERS)
  t_MOST_RAYS : Tok
  m_MOST_RAYS : mg "MOST_RAYS" = some (.int 64 t_MOST_RAYS)
  t_MOST_BENDS : Tok
  m_MOST_BENDS : mg "MOST_BENDS" = some (.int 800 t_MOST_BENDS)
  n_isinstance : mg "isinstance" = none
  n_int : mg "int" = none
  n_bool : mg "bool" = none
  n_tuple : mg "tuple" = none
  n_list : mg "list" = none
  n_len : mg "len" = none
  n_sum : mg "sum" = none
  n_all : mg "all" = none
  n_any : mg "any" = none
  n_zip : mg "zip" = none
  n_max : mg "max" = none
  n_min : mg "min" = none
  n_abs : mg "abs" = none
  n_range : mg "range" = none
  n_enumerate : mg "enumerate" = none
  n_reversed : mg "reversed" = none
  n_sorted : mg "sorted" = none
  n_str : mg "str" = none
  n_repr : mg "repr" = none
  n_set : mg "set" = none
  a_InvalidReading : Addr
  m_InvalidReading : mg "InvalidReading" = some (.ref a_InvalidReading)
  k_InvalidReading : PySem.W.keepIn K (.ref a_InvalidReading) = true
  be_InvalidReading : PySem.W.subIn K (.ref a_InvalidReading) (.type "BaseException") = some true
  ty_InvalidReading : PySem.W.typeIn K (.ref a_InvalidReading) = some (.type "type")
  x_InvalidReading : PySem.W.excIn K a_InvalidReading [.type "ValueError", .type "Exception", .type "BaseException", .type "object"] "ValueError.__new__" = true
  a_InvalidRow : Addr
  m_InvalidRow : mg "InvalidRow" = some (.ref a_InvalidRow)
  k_InvalidRow : PySem.W.keepIn K (.ref a_InvalidRow) = true
  be_InvalidRow : PySem.W.subIn K (.ref a_InvalidRow) (.type "BaseException") = some true
  ty_InvalidRow : PySem.W.typeIn K (.ref a_InvalidRow) = some (.type "type")
  x_InvalidRow : PySem.W.excIn K a_InvalidRow [.type "ValueError", .type "Exception", .type "BaseException", .type "object"] "ValueError.__new__" = true
  a_InvalidOperation : Addr
  m_InvalidOperation : mg "InvalidOperation" = some (.ref a_InvalidOperation)
  k_InvalidOperation : PySem.W.keepIn K (.ref a_InvalidOperation) = true
  be_InvalidOperation : PySem.W.subIn K (.ref a_InvalidOperation) (.type "BaseException") = some true
  ty_InvalidOperation : PySem.W.typeIn K (.ref a_InvalidOperation) = some (.type "type")
  x_InvalidOperation : PySem.W.excIn K a_InvalidOperation [.type "ValueError", .type "Exception", .type "BaseException", .type "object"] "ValueError.__new__" = true
  a_TooMany : Addr
  m_TooMany : mg "TooMany" = some (.ref a_TooMany)
  k_TooMany : PySem.W.keepIn K (.ref a_TooMany) = true
  be_TooMany : PySem.W.subIn K (.ref a_TooMany) (.type "BaseException") = some true
  ty_TooMany : PySem.W.typeIn K (.ref a_TooMany) = some (.type "type")
  ox_TooMany : OexG K a_TooMany
  oi_TooMany : PySem.W.findIn K (.ref a_TooMany) "__init__" = some (some (.ref a_TooManyu_initu))
  ot_TooMany : PySem.W.typeIn K (.ref a_TooManyu_initu) = some (.type "function")
  nf_TooMany : PySem.W.findIn K (.ref a_TooMany) "limit" = some none
  xf_TooMany : XfC K a_TooMany
  em_InvalidReading_InvalidReading : PySem.W.exmOne K (.ref a_InvalidReading) (.ref a_InvalidReading) = some true
  em_InvalidReading_InvalidRow : PySem.W.exmOne K (.ref a_InvalidReading) (.ref a_InvalidRow) = some false
  em_InvalidReading_InvalidOperation : PySem.W.exmOne K (.ref a_InvalidReading) (.ref a_InvalidOperation) = some false
  em_InvalidReading_TooMany : PySem.W.exmOne K (.ref a_InvalidReading) (.ref a_TooMany) = some false
  em_InvalidRow_InvalidReading : PySem.W.exmOne K (.ref a_InvalidRow) (.ref a_InvalidReading) = some false
  em_InvalidRow_InvalidRow : PySem.W.exmOne K (.ref a_InvalidRow) (.ref a_InvalidRow) = some true
  em_InvalidRow_InvalidOperation : PySem.W.exmOne K (.ref a_InvalidRow) (.ref a_InvalidOperation) = some false
  em_InvalidRow_TooMany : PySem.W.exmOne K (.ref a_InvalidRow) (.ref a_TooMany) = some false
  em_InvalidOperation_InvalidReading : PySem.W.exmOne K (.ref a_InvalidOperation) (.ref a_InvalidReading) = some false
  em_InvalidOperation_InvalidRow : PySem.W.exmOne K (.ref a_InvalidOperation) (.ref a_InvalidRow) = some false
  em_InvalidOperation_InvalidOperation : PySem.W.exmOne K (.ref a_InvalidOperation) (.ref a_InvalidOperation) = some true
  em_InvalidOperation_TooMany : PySem.W.exmOne K (.ref a_InvalidOperation) (.ref a_TooMany) = some false
  em_TooMany_InvalidReading : PySem.W.exmOne K (.ref a_TooMany) (.ref a_InvalidReading) = some false
  em_TooMany_InvalidRow : PySem.W.exmOne K (.ref a_TooMany) (.ref a_InvalidRow) = some false
  em_TooMany_InvalidOperation : PySem.W.exmOne K (.ref a_TooMany) (.ref a_InvalidOperation) = some false
  em_TooMany_TooMany : PySem.W.exmOne K (.ref a_TooMany) (.ref a_TooMany) = some true
  c__law_right : Addr
  P__law_right : Addr
  lk__law_right : ∃ (oc : Value) (od : Option Addr) (kV doc pm : Value) (an : Option Addr) (ct : Value) (osl : Array (Option Value)), d__law_right = PySem.W.fnOf "_law_right" "_law_right" (defArgs s__law_right) (defBody s__law_right) (defScope s__law_right) .none kV doc pm an (.ref c__law_right) ct ∧ K.lookup a__law_right = some ⟨oc, od, .func d__law_right, osl⟩ ∧ PySem.W.codeIn K (.ref c__law_right) "_law_right" = true
  c_law : Addr
  P_law : Addr
  lk_law : ∃ (oc : Value) (od : Option Addr) (kV doc pm : Value) (an : Option Addr) (ct : Value) (osl : Array (Option Value)), d_law = PySem.W.fnOf "law" "law" (defArgs s_law) (defBody s_law) (defScope s_law) .none kV doc pm an (.ref c_law) ct ∧ K.lookup a_law = some ⟨oc, od, .func d_law, osl⟩ ∧ PySem.W.codeIn K (.ref c_law) "law" = true
  pne : ([P__law_right, P_law] : List Addr).Nodup
  m_gcd : mg "gcd" = some (.builtin "math.gcd")
  a_EAST : Addr
  m_EAST : mg "EAST" = some (.ref a_EAST)
  e_EAST : ∀ B : Hp, Rep K B (.ref a_EAST) (.tup [.int 1, .int 0])
  a_AXES : Addr
  m_AXES : mg "AXES" = some (.ref a_AXES)
  e_AXES : ∀ B : Hp, Rep K B (.ref a_AXES) (.tup [.tup [.int 1, .int 0], .tup [.int 0, .int 1], .tup [.int (-1), .int 0], .tup [.int 0, .int (-1)]])
end N46

set_option Elab.async false
set_option linter.all false
set_option maxRecDepth 100000
set_option maxHeartbeats 4000000
namespace N46
open PySem PySem.Spec PyProof.Rows L2 RW

def gASR (ss : List Sl) (S : List Dat) (r : Dat) (S' : List Dat) : Prop := ∃ (v : Dat) (mr ml : Int), ss = [.d v, .d (.int mr), .d (.int ml)] ∧ KD v ∧ r = .bl (asrB v mr ml) ∧ S' = S
def gAsc (ss : List Sl) (S : List Dat) (r : Dat) (S' : List Dat) : Prop := ∃ (n : Nat) (rows : List (List Int)), ss = [.d (.tup (rows.map fun r => Dat.tup (r.map Dat.int)))] ∧ rows ≠ [] ∧ (∀ x ∈ rows, x.length = n) ∧ r = .bl (ascB rows) ∧ S' = S
def gLotB (ss : List Sl) (S : List Dat) (r : Dat) (S' : List Dat) : Prop := ∃ v : Dat, ss = [.d v] ∧ KD v ∧ r = .bl (lotB v) ∧ S' = S
def gRdB (ss : List Sl) (S : List Dat) (r : Dat) (S' : List Dat) : Prop := ∃ v : Dat, ss = [.d v] ∧ KD v ∧ r = .bl (rdB v) ∧ S' = S
def gNd (b : Dat → Bool) (C : Addr) (ss : List Sl) (S : List Dat) (o : Out) (S' : List Dat) : Prop := ∃ v : Dat, ss = [.d v] ∧ KD v ∧ o = (if b v = true then .val .non else .exc C none) ∧ S' = S
theorem at0 {x : Dat} {xs : List Dat} : atI (x :: xs) 0 = some x := by simp [atI, ixN]
theorem at1 {x y : Dat} {xs : List Dat} : atI (x :: y :: xs) 1 = some y := by
  have h : (1 : Int) < (x :: y :: xs).length := by rw [List.length_cons, List.length_cons]; omega
  unfold atI ixN
  rw [if_pos (by decide), if_pos h]; rfl
theorem cut1 {xs : List Dat} : RW.cutD xs (some 1) none = xs.drop 1 := by
  unfold RW.cutD
  have e2 : HT.sIx xs.length xs.length none = xs.length := rfl
  have e1 : HT.sIx xs.length 0 (some 1) = min 1 xs.length := rfl
  rw [e1, e2]
  cases xs with
  | nil => rfl
  | cons x r =>
    rw [show min 1 (x :: r).length = 1 by simp]
    exact List.take_of_length_le (by simp)
theorem kd_inn {xs : List Dat} (h : KD (.tup xs)) : ∀ d ∈ xs, KD d := by cases h; assumption
theorem cd_lenX {K : PySem.W.Frag} {S : List Dat} {v : Dat} (h : isTupD v = true) : CallD K (rLenD K) [.d v] S (.int (lenD v)) S := by
  cases v <;> first
    | (simp [isTupD] at h; done)
    | exact cd_len .tup
section
variable {P : Program} {w : World} {K : PySem.W.Frag} {mg : Str → Option Value} {base : Heap}

theorem ok_are_short_rows (T : Txt K mg) : FnOk P w K mg base CX0 1 T.a_are_short_rows T.d_are_short_rows ["value", "most_rows", "most_length"] (SpD K (gASR)) := by
  refine T.F_are_short_rows.ok sc_are_short_rows (spd_len (k := 3) fun ss S r S' hg => ?_) (fun cdv A outer s H vs Q E hr h => ⟨_, (pss_cons (ps_if (PW.pt (pw_or (pt_not (pt_truK K (pe_callB call_isi (by rfl) T.n_isinstance (by decide +kernel) (pa_cons (pv 0) (pa_cons (pe_bltn (v := .ty "tuple") (by rfl) T.n_tuple (by decide +kernel) rfl) pa_nil))))) (pw_or1 (pt_not (pt_chain op_le op_le pe_int (pe_callB (call_lenK K) (by rfl) T.n_len (by decide +kernel) (pa_cons (pv 0) pa_nil)) (pv 1)))))) (pss_one (ps_ret pe_bl)) pss_nil) (pss_cons (ps_if (PW.pt (pw_or (pt_not (pt_truK K (pe_callB call_isi (by rfl) T.n_isinstance (by decide +kernel) (pa_cons (pe_ix (ix_seqK K) (pv 0) pe_int (fun _ _ => rfl)) (pa_cons (pe_bltn (v := .ty "tuple") (by rfl) T.n_tuple (by decide +kernel) rfl) pa_nil))))) (pw_or1 (pt_not (pt_chain op_le op_le pe_int (pe_callB (call_lenK K) (by rfl) T.n_len (by decide +kernel) (pa_cons (pe_ix (ix_seqK K) (pv 0) pe_int (fun _ _ => rfl)) pa_nil)) (pv 2)))))) (pss_one (ps_ret pe_bl)) pss_nil) (pss_cons (ps_set (i := 3) sc_are_short_rows.nd rfl (by first | exact Or.inl rfl | exact Or.inr rfl) (pe_callB (call_lenK K) (by rfl) T.n_len (by decide +kernel) (pa_cons (pe_ix (ix_seqK K) (pv 0) pe_int (fun _ _ => rfl)) pa_nil))) (pss_cons (ps_for PassesOwn.never rfl (pi_seqK K (pv 0)) (pg_name (i := 4) sc_are_short_rows.nd rfl (by first | exact Or.inl rfl | exact Or.inr rfl)) (pss_cons (ps_if (PW.pt (pw_or (pt_not (pt_truK K (pe_callB call_isi (by rfl) T.n_isinstance (by decide +kernel) (pa_cons (pv 4) (pa_cons (pe_bltn (v := .ty "tuple") (by rfl) T.n_tuple (by decide +kernel) rfl) pa_nil))))) (pw_or1 (pt_cmpR op_ne (pe_callB (call_lenK K) (by rfl) T.n_len (by decide +kernel) (pa_cons (pv 4) pa_nil)) (pv 3) (nomark _))))) (pss_one (ps_ret pe_bl)) pss_nil) (pss_one (ps_for PassesOwn.never rfl (pi_seqK K (pv 4)) (pg_name (i := 5) sc_are_short_rows.nd rfl (by first | exact Or.inl rfl | exact Or.inr rfl)) (pss_one (ps_if (PW.pt (pw_or (pt_not (pt_truK K (pe_callB call_isi (by rfl) T.n_isinstance (by decide +kernel) (pa_cons (pv 5) (pa_cons (pe_bltn (v := .ty "int") (by rfl) T.n_int (by decide +kernel) rfl) pa_nil))))) (pw_or (pt_cmpR op_isX (pv 5) pe_bl (nomark _)) (pw_or (pt_cmpR op_isX (pv 5) pe_bl (nomark _)) (pw_or (pt_cmpR op_le (pv 5) (pe_glob (v := .int (-(10 ^ 60))) rfl T.m_BENEATH ⟨_, rfl⟩) (nomark _)) (pw_or1 (pt_cmpR op_ge (pv 5) (pe_glob (v := .int (10 ^ 60)) rfl T.m_BEYOND ⟨_, rfl⟩) (nomark _)))))))) (pss_one (ps_ret pe_bl)) pss_nil)))))) (pss_one (ps_ret pe_bl)))))), sp_body h fun ss S r S' hg => ?_⟩)
  · obtain ⟨v, mr, ml, rfl, _⟩ := hg; rfl
  · obtain ⟨v, mr, ml, rfl, hv, rfl, rfl⟩ := hg
    have hT : EvT K _ [some (.d v), some (.d (.int mr)), some (.d (.int ml)), none, none, none] S' (!isTupD v) S' := et_not (et_bl (ev_cb (ea_cons (ev_var (i := 0) rfl) (ea_cons ev_ty ea_nil)) (ck_tup hv)))
    by_cases ht : isTupD v = true
    case neg =>
      have ht : isTupD v = false := by simpa using ht
      rw [ht] at hT
      have e : asrB v mr ml = false := by cases v <;> first | rfl | (simp [isTupD] at ht)
      rw [e]
      refine sp_ifq (b := true) (et_orP (a := true) (b := false) hT fun h => by cases h) (fun _ => sp_retq (sp_ret ev_bl ⟨rfl, List.take_length⟩)) (fun h => by cases h)
    case pos =>
      rw [ht] at hT
      obtain ⟨xs, rfl⟩ : ∃ xs, v = .tup xs := by cases v <;> first | exact ⟨_, rfl⟩ | (simp [isTupD] at ht)
      have hin := kd_inn hv
      have hC := et_not (et_test (ev_chain (K := K) (env := [some (.d (.tup xs)), some (.d (.int mr)), some (.d (.int ml)), none, none, none]) (S := S') (ev_int (i := 1)) (ev_cb (ea_cons (ev_var (i := 0) rfl) ea_nil) (cd_len .tup)) (o_le (K := K) (i := 1) (j := xs.length)) (fun _ => ev_var (i := 1) rfl) (fun _ => o_le (K := K) (i := xs.length) (j := mr))))
      by_cases hc : (decide ((1 : Int) ≤ xs.length) && decide ((xs.length : Int) ≤ mr)) = true
      case neg =>
        have hc : (decide ((1 : Int) ≤ xs.length) && decide ((xs.length : Int) ≤ mr)) = false := by simpa using hc
        rw [hc] at hC
        have e : asrB (.tup xs) mr ml = false := by
          cases xs with
          | nil => rfl
          | cons r0 rs =>
            unfold asrB
            rw [show decide ((1 : Int) ≤ (r0 :: rs).length) = true from decide_eq_true (by rw [List.length_cons]; omega), Bool.true_and] at hc
            show (decide (((r0 :: rs).length : Int) ≤ mr) && _) = false
            rw [hc]; rfl
        rw [e]
        exact sp_ifq (b := true) (et_orP (a := false) (b := true) hT fun _ => hC) (fun _ => sp_retq (sp_ret ev_bl ⟨rfl, List.take_length⟩)) (fun h => by cases h)
      case pos =>
        rw [hc] at hC
        refine sp_ifq (b := false) (et_orP (a := false) (b := false) hT fun _ => hC) (fun h => by cases h) fun _ => sp_nextq ?_
        clear hT hC
        cases xs with
        | nil => simp at hc
        | cons r0 rs =>
          rw [Bool.and_eq_true] at hc
          have h0 := hin r0 List.mem_cons_self
          have hT : EvT K _ [some (.d (.tup (r0 :: rs))), some (.d (.int mr)), some (.d (.int ml)), none, none, none] S' (!isTupD r0) S' := et_not (et_bl (ev_cb (ea_cons (ev_op (ev_var (i := 0) rfl) (ev_int (i := 0)) (op2_ix (d := r0) .tup at0)) (ea_cons ev_ty ea_nil)) (ck_tup h0)))
          have eq0 : asrB (.tup (r0 :: rs)) mr ml = (isTupD r0 && (decide (1 ≤ lenD r0) && decide ((lenD r0 : Int) ≤ ml)) && (r0 :: rs).all (rowB (lenD r0))) := by
            unfold asrB
            show (decide (((r0 :: rs).length : Int) ≤ mr) && _) = _
            rw [hc.2, Bool.true_and]
          rw [eq0]
          by_cases ht : isTupD r0 = true
          case neg =>
            have ht : isTupD r0 = false := by simpa using ht
            rw [ht] at hT ⊢
            exact sp_ifq (b := true) (et_orP (a := true) (b := false) hT fun h => by cases h) (fun _ => sp_retq (sp_ret ev_bl ⟨rfl, List.take_length⟩)) (fun h => by cases h)
          case pos =>
            have hC := et_not (et_test (ev_chain (K := K) (env := [some (.d (.tup (r0 :: rs))), some (.d (.int mr)), some (.d (.int ml)), none, none, none]) (S := S') (ev_int (i := 1)) (ev_cb (ea_cons (ev_op (ev_var (i := 0) rfl) (ev_int (i := 0)) (op2_ix (d := r0) .tup at0)) ea_nil) (cd_lenX ht)) (o_le (K := K) (i := 1) (j := lenD r0)) (fun _ => ev_var (i := 2) rfl) (fun _ => o_le (K := K) (i := lenD r0) (j := ml))))
            rw [ht] at hT ⊢
            have e1 : decide ((1 : Int) ≤ (lenD r0 : Int)) = decide (1 ≤ lenD r0) := by
              by_cases h : 1 ≤ lenD r0
              · rw [decide_eq_true h, decide_eq_true (by omega)]
              · rw [decide_eq_false h, decide_eq_false (by omega)]
            rw [e1] at hC
            by_cases hc2 : (decide (1 ≤ lenD r0) && decide ((lenD r0 : Int) ≤ ml)) = true
            case neg =>
              have hc2 : (decide (1 ≤ lenD r0) && decide ((lenD r0 : Int) ≤ ml)) = false := by simpa using hc2
              rw [hc2] at hC ⊢
              exact sp_ifq (b := true) (et_orP (a := false) (b := true) hT fun _ => hC) (fun _ => sp_retq (sp_ret ev_bl ⟨rfl, List.take_length⟩)) (fun h => by cases h)
            case pos =>
              rw [hc2] at hC ⊢
              refine sp_ifq (b := false) (et_orP (a := false) (b := false) hT fun _ => hC) (fun h => by cases h) fun _ => sp_nextq ?_
              refine sp_set (ev_cb (ea_cons (ev_op (ev_var rfl) ev_int (op2_ix (d := r0) .tup at0)) ea_nil) (cd_lenX ht)) ?_
              generalize hn : lenD r0 = n
              show SP K _ _ _ _ _
              refine sp_seq (P' := { nx := fun env' S2 => S2 = S' ∧ (r0 :: rs).all (rowB n) = true ∧ ∃ o1 o2, env' = [some (.d (.tup (r0 :: rs))), some (.d (.int mr)), some (.d (.int ml)), some (.d (.int n)), o1, o2] })
                (sp_for (it_tup (ev_var rfl)) (fun i env' S2 => S2 = S' ∧ ((r0 :: rs).take i).all (rowB n) = true ∧ ∃ o1 o2, env' = [some (.d (.tup (r0 :: rs))), some (.d (.int mr)), some (.d (.int ml)), some (.d (.int n)), o1, o2]) ⟨rfl, rfl, none, none, rfl⟩ (fun _ _ _ _ _ _ _ _ _ => trivial) ?_ ?_) ?_
              · rintro i row env' S2 hrow ⟨rfl, hall, o1, o2, rfl⟩
                have hk := hin row (List.mem_of_getElem? hrow)
                refine ⟨[4], fun env => env.set 4 (some (.d row)), tg_name, ?_⟩
                have hl := (List.getElem?_eq_some_iff.mp hrow).1
                have er : (r0 :: rs)[i] = row := (List.getElem?_eq_some_iff.mp hrow).2
                have bad : rowB n row = false → (r0 :: rs).all (rowB n) = false := fun h => by
                  rw [List.all_eq_false]
                  exact ⟨row, List.mem_of_getElem? hrow, by rw [h]; decide⟩
                have hT : EvT K _ [some (.d (.tup (r0 :: rs))), some (.d (.int mr)), some (.d (.int ml)), some (.d (.int n)), some (.d row), o2] S2 (!isTupD row) S2 := et_not (et_bl (ev_cb (ea_cons (ev_var (i := 4) rfl) (ea_cons ev_ty ea_nil)) (ck_tup hk)))
                by_cases ht : isTupD row = true
                case neg =>
                  have ht : isTupD row = false := by simpa using ht
                  rw [ht] at hT
                  have e : rowB n row = false := by cases row <;> first | rfl | (simp [isTupD] at ht)
                  exact sp_ifq (b := true) (et_orP (a := true) (b := false) hT fun h => by cases h) (fun _ => sp_retq (sp_ret ev_bl ⟨by rw [bad e]; rfl, List.take_length⟩)) (fun h => by cases h)
                case pos =>
                  have hC := et_test (ev_op (K := K) (env := [some (.d (.tup (r0 :: rs))), some (.d (.int mr)), some (.d (.int ml)), some (.d (.int n)), some (.d row), o2]) (S := S2) (ev_cb (ea_cons (ev_var (i := 4) rfl) ea_nil) (cd_lenX ht)) (ev_var (i := 3) rfl) (op2_ne_int (K := K) (i := (lenD row : Int)) (j := (n : Int))))
                  rw [ht] at hT
                  obtain ⟨ys, rfl⟩ : ∃ ys, row = .tup ys := by cases row <;> first | exact ⟨_, rfl⟩ | (simp [isTupD] at ht)
                  by_cases hlen : ys.length = n
                  case neg =>
                    have e : rowB n (.tup ys) = false := by show (decide (ys.length = n) && ys.all shD) = false; rw [decide_eq_false hlen]; rfl
                    refine sp_ifq (b := true) (et_orP (a := false) (b := true) hT fun _ => hC.to ?_) (fun _ => sp_retq (sp_ret ev_bl ⟨by rw [bad e]; rfl, List.take_length⟩)) (fun h => by cases h)
                    show (!decide _) = true
                    rw [decide_eq_false (by show ¬ ((ys.length : Int) = n); omega)]; rfl
                  case pos =>
                    refine sp_ifq (b := false) (et_orP (a := false) (b := false) hT fun _ => hC.to ?_) (fun h => by cases h) fun _ => sp_nextq ?_
                    · show (!decide _) = false
                      rw [decide_eq_true (by show (ys.length : Int) = n; omega)]; rfl
                    · have hys := kd_inn hk
                      refine (sp_for (it_tup (ev_var rfl)) (fun j env' S3 => S3 = S2 ∧ (ys.take j).all shD = true ∧ ∃ o2, env' = [some (.d (.tup (r0 :: rs))), some (.d (.int mr)), some (.d (.int ml)), some (.d (.int n)), some (.d (.tup ys)), o2]) ⟨rfl, rfl, o2, rfl⟩ (fun _ _ _ _ _ _ _ _ _ => trivial) ?_ ?_)
                      · rintro j x env' S3 hx ⟨rfl, hal, o3, rfl⟩
                        refine ⟨[5], fun env => env.set 5 (some (.d x)), tg_name, ?_⟩
                        have hB := et_bad (K := K) (S := S3) (i := 5) (env := [some (.d (.tup (r0 :: rs))), some (.d (.int mr)), some (.d (.int ml)), some (.d (.int n)), some (.d (.tup ys)), some (.d x)]) (hys x (List.mem_of_getElem? hx)) rfl
                        have hlx := (List.getElem?_eq_some_iff.mp hx).1
                        have ex : ys[j] = x := (List.getElem?_eq_some_iff.mp hx).2
                        cases hs : shD x with
                        | false =>
                          rw [hs] at hB
                          refine sp_if (b := true) hB (fun _ => sp_ret ev_bl ⟨?_, List.take_length⟩) (fun h => by cases h)
                          have e : rowB n (.tup ys) = false := by
                            show (decide (ys.length = n) && ys.all shD) = false
                            rw [decide_eq_true hlen, Bool.true_and, List.all_eq_false]
                            exact ⟨x, List.mem_of_getElem? hx, by rw [hs]; decide⟩
                          rw [bad e]; rfl
                        | true =>
                          rw [hs] at hB
                          refine sp_if (b := false) hB (fun h => by cases h) fun _ => sp_next ⟨rfl, ?_, _, rfl⟩
                          rw [List.take_succ_eq_append_getElem hlx, List.all_append, hal, ex]
                          simp [hs]
                      · rintro env' S3 ⟨rfl, hal, o3, rfl⟩
                        refine ⟨rfl, ?_, _, _, rfl⟩
                        rw [List.take_length] at hal
                        rw [List.take_succ_eq_append_getElem hl, List.all_append, hall, er]
                        simp [rowB, hlen, hal]
              · rintro env' S2 ⟨rfl, hall, o1, o2, rfl⟩
                rw [List.take_length] at hall
                exact ⟨rfl, hall, o1, o2, rfl⟩
              · rintro env' S2 ⟨rfl, hall, o1, o2, rfl⟩
                exact sp_ret ev_bl ⟨by rw [hall]; rfl, List.take_length⟩
end
end N46

set_option Elab.async false
set_option linter.all false
set_option maxRecDepth 100000
set_option maxHeartbeats 4000000
namespace N46
open PySem PySem.Spec PyProof.Rows L2 RW

theorem asc_at : ∀ {rows : List (List Int)} {i : Nat} {x y : List Int}, rows[i]? = some x → rows[i + 1]? = some y → RwS.lx x y = false → ascB rows = false
  | [], _, _, _, h, _, _ => by simp at h
  | [_], i, _, _, _, h, _ => by simp at h
  | a :: b :: r, 0, x, y, h1, h2, h => by
    simp at h1 h2; subst h1 h2
    show (RwS.lx a b && _) = false
    rw [h]; rfl
  | a :: b :: r, i + 1, x, y, h1, h2, h => by
    show (RwS.lx a b && ascB (b :: r)) = false
    rw [asc_at (rows := b :: r) (i := i) (by simpa using h1) (by simpa using h2) h, Bool.and_false]
theorem asc_all : ∀ {rows : List (List Int)}, (∀ i x y, rows[i]? = some x → rows[i + 1]? = some y → RwS.lx x y = true) → ascB rows = true
  | [], _ => rfl
  | [_], _ => rfl
  | a :: b :: r, h => by
    show (RwS.lx a b && ascB (b :: r)) = true
    rw [h 0 a b rfl rfl, asc_all (rows := b :: r) fun i x y h1 h2 => h (i + 1) x y (by simpa using h1) (by simpa using h2)]
    rfl
theorem inn_rows (rows : List (List Int)) : (innD (.tup (rows.map fun r => Dat.tup (r.map Dat.int)))).map (fun r => (innD r).map RW.intD) = rows := by
  show (rows.map fun r => Dat.tup (r.map Dat.int)).map _ = rows
  rw [List.map_map]
  conv => rhs; rw [← List.map_id rows]
  refine List.map_congr_left fun r _ => ?_
  show (r.map Dat.int).map RW.intD = r
  rw [List.map_map]
  conv => rhs; rw [← List.map_id r]
  exact List.map_congr_left fun _ _ => rfl
section
variable {P : Program} {w : World} {K : PySem.W.Frag} {mg : Str → Option Value} {base : Heap}

theorem ok_are_ascending (T : Txt K mg) : FnOk P w K mg base CX0 1 T.a_are_ascending T.d_are_ascending ["values"] (SpD K (gAsc)) := by
  refine T.F_are_ascending.ok sc_are_ascending (spd_len (k := 1) fun ss S r S' hg => ?_) (fun cdv A outer s H vs Q E hr h => ⟨_, (pss_cons (ps_set (i := 1) sc_are_ascending.nd rfl (by first | exact Or.inl rfl | exact Or.inr rfl) (pe_ix (ix_seqK K) (pv 0) pe_int (fun _ _ => rfl))) (pss_cons (ps_for PassesOwn.never rfl (pi_seqK K (pe_slice (sl_tupAK K) (pv 0) (po_some pe_int) po_none)) (pg_name (i := 2) sc_are_ascending.nd rfl (by first | exact Or.inl rfl | exact Or.inr rfl)) (pss_cons (ps_if (pt_cmpR (op_leT (Nat.lt_of_le_of_lt (Nat.le_add_right _ _) hr.units)) (pv 2) (pv 1) (nomark _)) (pss_one (ps_ret pe_bl)) pss_nil) (pss_one (ps_set (i := 1) sc_are_ascending.nd rfl (by first | exact Or.inl rfl | exact Or.inr rfl) (pv 2))))) (pss_one (ps_ret pe_bl)))), sp_body h fun ss S r S' hg => ?_⟩)
  · obtain ⟨n, rows, rfl, _⟩ := hg; rfl
  · obtain ⟨n, rows, rfl, hne, hn, rfl, rfl⟩ := hg
    obtain ⟨r0, rest, rfl⟩ : ∃ r0 rest, rows = r0 :: rest := by
      cases rows with
      | nil => exact absurd rfl hne
      | cons r0 rest => exact ⟨r0, rest, rfl⟩
    refine sp_set (x := .d (.tup (r0.map Dat.int))) (ev_op (ev_var rfl) ev_int (op2_ix .tup at0)) ?_
    refine sp_seq (P' := { nx := fun env' S2 => S2 = S' ∧ ascB (r0 :: rest) = true ∧ ∃ o1 o2, env' = [some (.d (.tup ((r0 :: rest).map fun r => Dat.tup (r.map Dat.int)))), o1, o2] })
      (sp_forA (xs := rest) (g := fun r => Dat.tup (r.map Dat.int)) ?_ (fun i env' S2 => S2 = S' ∧ (∀ j x y, j < i → (r0 :: rest)[j]? = some x → (r0 :: rest)[j + 1]? = some y → RwS.lx x y = true) ∧ ∃ r o2, (r0 :: rest)[i]? = some r ∧ env' = [some (.d (.tup ((r0 :: rest).map fun r => Dat.tup (r.map Dat.int)))), some (.d (.tup (r.map Dat.int))), o2]) ⟨rfl, fun _ _ _ h => absurd h (Nat.not_lt_zero _), r0, none, rfl, rfl⟩ (fun _ _ _ _ _ _ _ _ _ => trivial) ?_ ?_) ?_
    · have := it_tup (K := K) (env := [some (.d (.tup ((r0 :: rest).map fun r => Dat.tup (r.map Dat.int)))), some (.d (.tup (r0.map Dat.int))), none]) (S := S') (ev_slT (ds := (r0 :: rest).map fun r => Dat.tup (r.map Dat.int)) (ev_var (i := 0) rfl) (eo_some (ev_int (i := 1))) eo_none)
      rw [cut1] at this
      exact this
    · rintro i r env' S2 hx ⟨rfl, hp, r1, o2, h1, rfl⟩
      refine ⟨[2], fun env => env.set 2 (some (.d (.tup (r.map Dat.int)))), tg_name, ?_⟩
      have h2 : (r0 :: rest)[i + 1]? = some r := by simpa using hx
      have w1 := hn r1 (List.mem_of_getElem? h1)
      have w2 := hn r (List.mem_of_getElem? h2)
      have hE := et_test (ev_op (K := K) (env := [some (.d (.tup ((r0 :: rest).map fun r => Dat.tup (r.map Dat.int)))), some (.d (.tup (r1.map Dat.int))), some (.d (.tup (r.map Dat.int)))]) (S := S2) (ev_var (i := 2) rfl) (ev_var (i := 1) rfl) (o_leR (ns := r) (ms := r1) (by rw [w1, w2])))
      cases hl : RwS.lx r1 r with
      | false =>
        rw [hl] at hE
        exact sp_ifq (b := true) hE (fun _ => sp_retq (sp_ret ev_bl ⟨by rw [asc_at h1 h2 hl], List.take_length⟩)) (fun h => by cases h)
      | true =>
        rw [hl] at hE
        refine sp_ifq (b := false) hE (fun h => by cases h) fun _ => sp_nextq ?_
        refine sp_set1 (ev_var rfl) ⟨rfl, fun j x y hj e1 e2 => ?_, r, _, h2, rfl⟩
        by_cases hji : j < i
        · exact hp j x y hji e1 e2
        · have : j = i := by omega
          subst this
          rw [h1] at e1; rw [h2] at e2
          cases e1; cases e2; exact hl
    · rintro env' S2 ⟨rfl, hp, r, o2, _, rfl⟩
      refine ⟨rfl, asc_all fun i x y e1 e2 => hp i x y ?_ e1 e2, _, _, rfl⟩
      have := (List.getElem?_eq_some_iff.mp e2).1
      simpa using this
    · rintro env' S2 ⟨rfl, ha, o1, o2, rfl⟩
      exact sp_ret ev_bl ⟨by rw [ha], List.take_length⟩
theorem ok_is_lot (T : Txt K mg) : FnOk P w K mg base CX0 2 T.a_is_lot T.d_is_lot ["value"] (SpD K (gLotB)) := by
  have G_are_short_rows := ok_are_short_rows (P := P) (w := w) (base := base) T
  have b_are_short_rows := T.b_are_short_rows
  have G_are_ascending := ok_are_ascending (P := P) (w := w) (base := base) T
  have b_are_ascending := T.b_are_ascending
  refine T.F_is_lot.ok sc_is_lot (spd_len (k := 1) fun ss S r S' hg => ?_) (fun cdv A outer s H vs Q E hr h => ⟨_, (pss_one (ps_ret (pe_and (pe_call G_are_short_rows (hr.mono (by decide)) rfl T.m_are_short_rows T.k_are_short_rows b_are_short_rows .nil pass0 (pa_cons (pv 0) (pa_cons (pe_glob (v := .int 400) rfl T.m_MOST_POINTS ⟨_, rfl⟩) (pa_cons (pe_glob (v := .int 8) rfl T.m_MOST_MEMBERS ⟨_, rfl⟩) pa_nil)))) (pe_one (pe_call G_are_ascending (hr.mono (by decide)) rfl T.m_are_ascending T.k_are_ascending b_are_ascending .nil pass0 (pa_cons (pv 0) pa_nil)))))), sp_body h fun ss S r S' hg => ?_⟩)
  · obtain ⟨v, rfl, _⟩ := hg; rfl
  · obtain ⟨v, rfl, hv, rfl, rfl⟩ := hg
    refine sp_ret (ev_andV (a := asrB v 400 8) (b := ascB ((innD v).map fun r => (innD r).map RW.intD)) (ev_call (ea_cons (ev_var rfl) (ea_cons ev_int (ea_cons ev_int ea_nil))) ⟨v, 400, 8, rfl, hv, rfl, rfl⟩) fun ha => ?_) ⟨rfl, List.take_length⟩
    obtain ⟨n, rows, rfl, hne, _, _, _, hr⟩ := asr_rows ha
    rw [inn_rows]
    exact ev_call (ea_cons (ev_var rfl) ea_nil) ⟨n, rows, rfl, hne, fun x hx => (hr x hx).1, rfl, rfl⟩
theorem ok_is_reading (T : Txt K mg) : FnOk P w K mg base CX0 3 T.a_is_reading T.d_is_reading ["value"] (SpD K (gRdB)) := by
  have G_is_lot := ok_is_lot (P := P) (w := w) (base := base) T
  have b_is_lot := T.b_is_lot
  refine T.F_is_reading.ok sc_is_reading (spd_len (k := 1) fun ss S r S' hg => ?_) (fun cdv A outer s H vs Q E hr h => ⟨_, (pss_cons (ps_if (PW.pt (pw_or (pt_not (pt_truK K (pe_callB call_isi (by rfl) T.n_isinstance (by decide +kernel) (pa_cons (pv 0) (pa_cons (pe_bltn (v := .ty "tuple") (by rfl) T.n_tuple (by decide +kernel) rfl) pa_nil))))) (pw_or1 (pt_cmpR op_ne (pe_callB (call_lenK K) (by rfl) T.n_len (by decide +kernel) (pa_cons (pv 0) pa_nil)) pe_int (nomark _))))) (pss_one (ps_ret pe_bl)) pss_nil) (pss_one (ps_ret (pe_and (pe_call G_is_lot (hr.mono (by decide)) rfl T.m_is_lot T.k_is_lot b_is_lot .nil pass0 (pa_cons (pe_ix (ix_seqK K) (pv 0) pe_int (fun _ _ => rfl)) pa_nil)) (pe_and (pe_call G_is_lot (hr.mono (by decide)) rfl T.m_is_lot T.k_is_lot b_is_lot .nil pass0 (pa_cons (pe_ix (ix_seqK K) (pv 0) pe_int (fun _ _ => rfl)) pa_nil)) (pe_one (pe_cmpR op_eq (pe_callB (call_lenK K) (by rfl) T.n_len (by decide +kernel) (pa_cons (pe_ix (ix_seqK K) (pe_ix (ix_seqK K) (pv 0) pe_int (fun _ _ => rfl)) pe_int (fun _ _ => rfl)) pa_nil)) (pe_callB (call_lenK K) (by rfl) T.n_len (by decide +kernel) (pa_cons (pe_ix (ix_seqK K) (pe_ix (ix_seqK K) (pv 0) pe_int (fun _ _ => rfl)) pe_int (fun _ _ => rfl)) pa_nil)) (nomark _)))))))), sp_body h fun ss S r S' hg => ?_⟩)
  · obtain ⟨v, rfl, _⟩ := hg; rfl
  · obtain ⟨v, rfl, hv, rfl, rfl⟩ := hg
    have hT : EvT K _ [some (.d v)] S' (!isTupD v) S' := et_not (et_bl (ev_cb (ea_cons (ev_var (i := 0) rfl) (ea_cons ev_ty ea_nil)) (ck_tup hv)))
    by_cases ht : isTupD v = true
    case neg =>
      have ht : isTupD v = false := by simpa using ht
      rw [ht] at hT
      have e : rdB v = false := by cases v <;> first | rfl | (simp [isTupD] at ht)
      rw [e]
      exact sp_ifq (b := true) (et_orP (a := true) (b := false) hT fun h => by cases h) (fun _ => sp_retq (sp_ret ev_bl ⟨rfl, List.take_length⟩)) (fun h => by cases h)
    case pos =>
      rw [ht] at hT
      obtain ⟨xs, rfl⟩ : ∃ xs, v = .tup xs := by cases v <;> first | exact ⟨_, rfl⟩ | (simp [isTupD] at ht)
      have hin := kd_inn hv
      have hC := et_test (ev_op (K := K) (env := [some (.d (.tup xs))]) (S := S') (ev_cb (ea_cons (ev_var (i := 0) rfl) ea_nil) (cd_len .tup)) (ev_int (i := 2)) (op2_ne_int (K := K) (i := (xs.length : Int)) (j := 2)))
      by_cases hl : xs.length = 2
      case neg =>
        have e : rdB (.tup xs) = false := by
          match xs, hl with
          | [], _ => rfl
          | [_], _ => rfl
          | [_, _], h => exact absurd rfl h
          | _ :: _ :: _ :: _, _ => rfl
        rw [e]
        refine sp_ifq (b := true) (et_orP (a := false) (b := true) hT fun _ => hC.to ?_) (fun _ => sp_retq (sp_ret ev_bl ⟨rfl, List.take_length⟩)) (fun h => by cases h)
        show (!decide _) = true
        rw [decide_eq_false (by omega)]; rfl
      case pos =>
        match xs, hl with
        | [a, b], _ =>
          refine sp_ifq (b := false) (et_orP (a := false) (b := false) hT fun _ => hC.to rfl) (fun h => by cases h) fun _ => sp_nextq ?_
          have ha := hin a (by simp)
          have hb := hin b (by simp)
          refine sp_ret (d := .bl (rdB (.tup [a, b]))) ((ev_andV (a := lotB a) (b := lotB b && decide (lenD ((innD a).getD 0 .non) = lenD ((innD b).getD 0 .non))) (ev_call (ea_cons (ev_op (ev_var rfl) ev_int (op2_ix (d := a) .tup at0)) ea_nil) ⟨a, rfl, ha, rfl, rfl⟩) fun ea => ev_andV (ev_call (ea_cons (ev_op (ev_var rfl) ev_int (op2_ix (d := b) .tup at1)) ea_nil) ⟨b, rfl, hb, rfl, rfl⟩) fun eb => ?_).to ?_) ⟨rfl, List.take_length⟩
          · have fst : ∀ v, lotB v = true → ∃ x xs, v = .tup (x :: xs) ∧ isTupD x = true := fun v h => by
              unfold lotB at h
              rw [Bool.and_eq_true] at h
              obtain ⟨n, rows, rfl, hne, _⟩ := asr_rows h.1
              cases rows with
              | nil => exact absurd rfl hne
              | cons r rs => exact ⟨_, _, rfl, rfl⟩
            obtain ⟨x, xs, rfl, hx⟩ := fst a ea
            obtain ⟨y, ys, rfl, hy⟩ := fst b eb
            refine (ev_op (ev_cb (ea_cons (ev_op (ev_op (ev_var rfl) ev_int (op2_ix (d := .tup (x :: xs)) .tup at0)) ev_int (op2_ix (d := x) .tup at0)) ea_nil) (cd_lenX hx)) (ev_cb (ea_cons (ev_op (ev_op (ev_var rfl) ev_int (op2_ix (d := .tup (y :: ys)) .tup at1)) ev_int (op2_ix (d := y) .tup at0)) ea_nil) (cd_lenX hy)) op2_eq_int).to ?_
            congr 2
            show decide ((lenD x : Int) = (lenD y : Int)) = decide (lenD x = lenD y)
            by_cases h : lenD x = lenD y
            · rw [decide_eq_true h, decide_eq_true (by omega)]
            · rw [decide_eq_false h, decide_eq_false (by omega)]
          · show Sl.d (.bl (lotB a && (lotB b && _))) = Sl.d (.bl (lotB a && lotB b && _))
            rw [Bool.and_assoc]
theorem ok_need_reading (T : Txt K mg) : FnOk P w K mg base (L2.CX P w) 4 T.a_need_reading T.d_need_reading ["reading"] (SpR K (gNd rdB T.a_InvalidReading)) := by
  have G_is_reading := ok_is_reading (P := P) (w := w) (base := base) T
  have b_is_reading := T.b_is_reading
  refine T.F_need_reading.okX sc_need_reading (spr_len (k := 1) fun ss S o S' hg => ?_) (fun cdv A outer s H vs Q E hr h => ⟨_, (pss_one (ps_if (pt_not (pt_truK K (pe_call G_is_reading (hr.mono (by decide)) rfl T.m_is_reading T.k_is_reading b_is_reading .nil pass0 (pa_cons (pv 0) pa_nil)))) (pss_one (ps_raise rfl (takes_of rfl rfl rfl rfl) (pmk_own PySem.F.excBase_ValueError T.x_InvalidReading T.m_InvalidReading T.k_InvalidReading (raises_own T.be_InvalidReading T.ty_InvalidReading) (by exact rfl)))) pss_nil)), sp_bodyR h fun ss S o S' hg => ?_⟩)
  · obtain ⟨v, rfl, _⟩ := hg; rfl
  · obtain ⟨v, rfl, hv, rfl, rfl⟩ := hg
    have hE := et_not (et_bl (ev_call (G := gRdB) (K := K) (env := [some (.d v)]) (E := E0) (ea_cons (ev_var (i := 0) rfl) ea_nil) (⟨v, rfl, hv, rfl, rfl⟩ : gRdB [.d v] S' (.bl (rdB v)) S')))
    cases hb : rdB v with
    | true =>
      rw [hb] at hE
      exact sp_if (b := false) hE (fun h => by cases h) fun _ => sp_next ⟨rfl, List.take_length⟩
    | false =>
      rw [hb] at hE
      exact sp_if (b := true) hE (fun _ => sp_raise0 (E := E) (C := T.a_InvalidReading) (by show XOk K E _ S' = _; rw [List.take_length]; rfl)) (fun h => by cases h)
end
end N46

set_option Elab.async false
set_option linter.all false
set_option maxRecDepth 100000
set_option maxHeartbeats 4000000
namespace N46
open PySem PySem.Spec PyProof.Rows L2 RW

theorem size_1000 {n : Nat} (h : n ≤ 1000) : n ≤ sizeLine := Nat.le_trans h (by decide)
abbrev rowD (u : List Int) : Dat := .tup (u.map Dat.int)
def isI : Dat → Bool
  | .int _ => true
  | _ => false
def wrowB (d : Dat) (n : Nat) : Bool := match d with
  | .tup xs => decide (xs.length = n) && xs.all isI
  | _ => false
def intsF (d : Dat) : List Int := (innD d).map RW.intD
def areWB (d : Dat) (n : Nat) : Bool := wrowB d n && decide (0 ≤ mnL (intsF d))
def toldB (d : Dat) (w : Str) (m : Nat) : Bool := match d with
  | .tup (x :: xs) => decide ((x :: xs).length = m) && eqD x (.str w)
  | _ => false
def partD (d : Dat) (i : Nat) : Dat := (innD d).getD i .non
theorem isI_int {d : Dat} (h : isI d = true) : d = .int (RW.intD d) := by
  cases d <;> first | rfl | (simp [isI] at h)
theorem all_isI {xs : List Dat} (h : xs.all isI = true) : xs = (xs.map RW.intD).map Dat.int := by
  induction xs with
  | nil => rfl
  | cons x xs ih =>
    rw [List.all_cons, Bool.and_eq_true] at h
    rw [List.map_cons, List.map_cons, ← ih h.2, ← isI_int h.1]
theorem wrow_row {d : Dat} {n : Nat} (h : wrowB d n = true) : d = rowD (intsF d) ∧ (intsF d).length = n := by
  unfold wrowB at h
  cases d with
  | tup xs =>
    rw [Bool.and_eq_true] at h
    refine ⟨?_, ?_⟩
    · show Dat.tup xs = .tup ((xs.map RW.intD).map Dat.int)
      rw [← all_isI h.2]
    · show (xs.map RW.intD).length = n
      rw [List.length_map]; exact of_decide_eq_true h.1
  | _ => cases h
theorem part_at {xs : List Dat} {i : Nat} (h : i < xs.length) : atI xs (i : Int) = some (partD (.tup xs) i) := by
  have := atI_n h
  rw [this]
  unfold partD innD
  rw [List.getD_eq_getElem?_getD, List.getElem?_eq_getElem h]; rfl
def gInt (ss : List Sl) (S : List Dat) (r : Dat) (S' : List Dat) : Prop := ∃ d : Dat, ss = [.d d] ∧ KD d ∧ r = .bl (isI d) ∧ S' = S
def gWholes (ss : List Sl) (S : List Dat) (r : Dat) (S' : List Dat) : Prop := ∃ xs : List Dat, ss = [.d (.tup xs)] ∧ (∀ x ∈ xs, KD x) ∧ r = .bl (xs.all isI) ∧ S' = S
def gWRow (ss : List Sl) (S : List Dat) (r : Dat) (S' : List Dat) : Prop := ∃ (d : Dat) (n : Nat), ss = [.d d, .d (.int n)] ∧ KD d ∧ r = .bl (wrowB d n) ∧ S' = S
def gAreW (ss : List Sl) (S : List Dat) (r : Dat) (S' : List Dat) : Prop := ∃ (d : Dat) (n : Nat), ss = [.d d, .d (.int n)] ∧ KD d ∧ 1 ≤ n ∧ r = .bl (areWB d n) ∧ S' = S
theorem et_is {K : PySem.W.Frag} {env : Env1} {S : List Dat} {d : Dat} {i : Nat} (hd : KD d) (he : env[i]? = some (some (.d d))) :
    EvT K (tOr (tNot (tTru K (tCB (rIsi K) (tCons (tVar i) (tCons (tC (.ty "int")) tNil))))) (tOr (tTest (tOp (rIsX false) (tVar i) (tC (.bl true)))) (tTest (tOp (rIsX false) (tVar i) (tC (.bl false)))))) env S (!isI d) S := by
  have h1 : EvT K (tNot (tTru K (tCB (rIsi K) (tCons (tVar i) (tCons (tC (.ty "int")) tNil))))) env S (!isIntD d) S := et_not (et_bl (ev_cb (ea_cons (ev_var he) (ea_cons ev_ty ea_nil)) (ck_int hd)))
  by_cases hi : isIntD d = true
  · rw [hi] at h1
    cases d <;> first
      | (cases hi)
      | skip
    · rename_i v
      refine et_orP (a := false) (b := true) h1 fun _ => ?_
      cases v
      · exact et_orP (a := false) (b := true) (et_test (ev_op (ev_var he) ev_bl (o_isX_blE rfl))) fun _ => et_test (ev_op (ev_var he) ev_bl (o_isX_blE rfl))
      · exact et_orP (a := true) (b := false) (et_test (ev_op (ev_var he) ev_bl (o_isX_blE rfl))) fun h => by cases h
    · rename_i v
      refine et_orP (a := false) (b := false) h1 fun _ => et_orP (a := false) (b := false) (et_test (ev_op (ev_var he) ev_bl o_isX_int)) fun _ => et_test (ev_op (ev_var he) ev_bl o_isX_int)
  · have hf : isIntD d = false := by simpa using hi
    rw [hf] at h1
    have e : isI d = false := by cases d <;> first | rfl | (simp [isIntD] at hf)
    rw [e]
    exact et_orP (a := true) (b := false) h1 fun h => by cases h
theorem len_eq {K : PySem.W.Frag} {S : List Dat} {xs : List Dat} {n : Nat} : Op2 K rEq (.d (.int ((xs.length : Nat) : Int))) (.d (.int (n : Int))) S (.bl (decide (xs.length = n))) := by
  have := @op2_eq_int K S ((xs.length : Nat) : Int) (n : Int)
  have e : decide (((xs.length : Nat) : Int) = (n : Int)) = decide (xs.length = n) := decide_eq_decide.mpr ⟨fun h => by omega, fun h => by omega⟩
  rwa [e] at this
theorem tup_of {d : Dat} (h : isTupD d = true) : ∃ xs, d = .tup xs := by
  cases d <;> first | exact ⟨_, rfl⟩ | (simp [isTupD] at h)
theorem not_tup {d : Dat} (h : isTupD d = false) (n : Nat) : wrowB d n = false := by
  cases d <;> first | rfl | (simp [isTupD] at h)
theorem not_told {d : Dat} (h : isTupD d = false) (w : Str) (n : Nat) : toldB d w n = false := by
  cases d <;> first | rfl | (simp [isTupD] at h)
def gShort (ss : List Sl) (S : List Dat) (r : Dat) (S' : List Dat) : Prop := ∃ d : Dat, ss = [.d d] ∧ KD d ∧ r = .bl (shD d) ∧ S' = S
def gShorts (ss : List Sl) (S : List Dat) (r : Dat) (S' : List Dat) : Prop := ∃ xs : List Dat, ss = [.d (.tup xs)] ∧ (∀ x ∈ xs, KD x) ∧ r = .bl (xs.all shD) ∧ S' = S
def srB (d : Dat) (lo hi : Int) : Bool := match d with
  | .tup xs => (decide (lo ≤ (xs.length : Int)) && decide ((xs.length : Int) ≤ hi)) && xs.all shD
  | _ => false
def gSRow (ss : List Sl) (S : List Dat) (r : Dat) (S' : List Dat) : Prop := ∃ (d : Dat) (lo hi : Int), ss = [.d d, .d (.int lo), .d (.int hi)] ∧ KD d ∧ r = .bl (srB d lo hi) ∧ S' = S
def gTold (ss : List Sl) (S : List Dat) (r : Dat) (S' : List Dat) : Prop := ∃ (k : Nat) (d : Dat) (w : Str), ss = [.d d, .d (.str w), .d (.int k)] ∧ KD d ∧ (∀ x xs, d = .tup (x :: xs) → Pl 0 x) ∧ 1 ≤ k ∧ (PyData.str w).canLay0 = true ∧ r = .bl (toldB d w k) ∧ S' = S
theorem not_sr {d : Dat} (h : isTupD d = false) (a b : Int) : srB d a b = false := by
  cases d <;> first | rfl | (simp [isTupD] at h)
theorem shD_isI {d : Dat} (h : isI d = false) : shD d = false := by
  cases d <;> first | rfl | (simp [isI] at h)
section
variable {P : Program} {w : World} {K : PySem.W.Frag} {mg : Str → Option Value} {base : Heap}

theorem ok_TooManyu_initu (T : Txt K mg) : FnOk P w K mg base CX0 1 T.a_TooManyu_initu T.d_TooManyu_initu ["self", "limit"] (spXg K T.a_TooMany "limit") := by
  refine T.F_TooManyu_initu.ok sc_TooManyu_initu spxg_len (fun cdv A outer s H vs Q E hr h => ⟨_, pss_one (ps_xset (pv 0) (pv 1)), spxg_body h rfl⟩)
theorem ok_is_whole (T : Txt K mg) : FnOk P w K mg base CX0 1 T.a_is_whole T.d_is_whole ["value"] (SpD K (gInt)) := by
  refine T.F_is_whole.ok sc_is_whole (spd_len (k := 1) fun ss S r S' hg => ?_) (fun cdv A outer s H vs Q E hr h => ⟨_, (pss_one (ps_ret (pe_and (pe_callB call_isi (by rfl) T.n_isinstance (by decide +kernel) (pa_cons (pv 0) (pa_cons (pe_bltn (v := .ty "int") (by rfl) T.n_int (by decide +kernel) rfl) pa_nil))) (pe_and (pe_cmpR op_notX (pv 0) pe_bl (nomark _)) (pe_one (pe_cmpR op_notX (pv 0) pe_bl (nomark _))))))), sp_body h fun ss S r S' hg => ?_⟩)
  · obtain ⟨i, rfl, _⟩ := hg; rfl
  · obtain ⟨d, rfl, hd, rfl, rfl⟩ := hg
    refine sp_ret (d := .bl (isI d)) ?_ ⟨rfl, List.take_length⟩
    have h1 : ∀ {env : Env1} {S : List Dat}, env[0]? = some (some (.d d)) → Ev K (tCB (rIsi K) (tCons (tVar 0) (tCons (tC (.ty "int")) tNil))) env S (.d (.bl (isIntD d))) S := fun he => ev_cb (ea_cons (ev_var he) (ea_cons ev_ty ea_nil)) (ck_int hd)
    by_cases hi : isIntD d = true
    · cases d <;> first
        | (cases hi)
        | skip
      · rename_i v
        cases v
        · exact ev_andV (a := true) (b := false) (Ev.to (h1 rfl) rfl) fun _ => ev_andV (a := true) (b := false) (ev_op (ev_var rfl) ev_bl (o_isX_blE rfl)) fun _ => ev_op (ev_var rfl) ev_bl (o_isX_blE rfl)
        · exact ev_andV (a := true) (b := false) (Ev.to (h1 rfl) rfl) fun _ => ev_andV (a := false) (b := false) (ev_op (ev_var rfl) ev_bl (o_isX_blE rfl)) fun h => by cases h
      · exact ev_andV (a := true) (b := true) (Ev.to (h1 rfl) rfl) fun _ => ev_andV (a := true) (b := true) (ev_op (ev_var rfl) ev_bl o_isX_int) fun _ => ev_op (ev_var rfl) ev_bl o_isX_int
    · have hf : isIntD d = false := by simpa using hi
      have e : isI d = false := by cases d <;> first | rfl | (simp [isIntD] at hf)
      rw [e]
      exact ev_andV (a := false) (b := false) (Ev.to (h1 rfl) (by rw [hf])) fun h => by cases h
theorem ok_are_whole (T : Txt K mg) : FnOk P w K mg base CX0 1 T.a_are_whole T.d_are_whole ["values"] (SpD K (gWholes)) := by
  refine T.F_are_whole.ok sc_are_whole (spd_len (k := 1) fun ss S r S' hg => ?_) (fun cdv A outer s H vs Q E hr h => ⟨_, (pss_cons (ps_for PassesOwn.never rfl (pi_seqK K (pv 0)) (pg_name (i := 1) sc_are_whole.nd rfl (by first | exact Or.inl rfl | exact Or.inr rfl)) (pss_one (ps_if (PW.pt (pw_or (pt_not (pt_truK K (pe_callB call_isi (by rfl) T.n_isinstance (by decide +kernel) (pa_cons (pv 1) (pa_cons (pe_bltn (v := .ty "int") (by rfl) T.n_int (by decide +kernel) rfl) pa_nil))))) (pw_or (pt_cmpR op_isX (pv 1) pe_bl (nomark _)) (pw_or1 (pt_cmpR op_isX (pv 1) pe_bl (nomark _)))))) (pss_one (ps_ret pe_bl)) pss_nil))) (pss_one (ps_ret pe_bl))), sp_body h fun ss S r S' hg => ?_⟩)
  · obtain ⟨i, rfl, _⟩ := hg; rfl
  · obtain ⟨xs, rfl, hk, rfl, rfl⟩ := hg
    refine sp_seq (P' := { nx := fun env' S2 => S2 = S' ∧ xs.all isI = true ∧ ∃ o1, env' = [some (.d (.tup xs)), o1] })
      (sp_forA (xs := xs) (g := id) (it_tup (Ev.to (ev_var rfl) (by rw [List.map_id]))) (fun i env' S2 => S2 = S' ∧ (xs.take i).all isI = true ∧ ∃ o1, env' = [some (.d (.tup xs)), o1]) ⟨rfl, rfl, none, rfl⟩ (fun _ _ _ _ _ _ _ _ _ => trivial) ?_ ?_) ?_
    · rintro i x env' S2 hx ⟨rfl, ha, o1, rfl⟩
      refine ⟨[1], fun env => env.set 1 (some (.d x)), tg_name, ?_⟩
      refine sp_if (b := !isI x) (et_is (hk x (List.mem_of_getElem? hx)) rfl) (fun h => ?_) fun h => sp_next ⟨rfl, ?_, _, rfl⟩
      · refine sp_ret ev_bl ⟨?_, List.take_length⟩
        have hf : isI x = false := by simpa using h
        have : xs.all isI = false := List.all_eq_false.mpr ⟨x, List.mem_of_getElem? hx, by rw [hf]; decide⟩
        rw [this]
      · have ht : isI x = true := by simpa using h
        obtain ⟨hl, e⟩ := List.getElem?_eq_some_iff.mp hx
        rw [List.take_succ_eq_append_getElem hl, e, List.all_append, ha]
        simp [ht]
    · rintro env' S2 ⟨rfl, ha, o1, rfl⟩
      rw [List.take_length] at ha
      exact ⟨rfl, ha, o1, rfl⟩
    · rintro env' S2 ⟨rfl, ha, o1, rfl⟩
      exact sp_ret ev_bl ⟨by rw [ha], List.take_length⟩
theorem ok_is_whole_row (T : Txt K mg) : FnOk P w K mg base CX0 2 T.a_is_whole_row T.d_is_whole_row ["value", "many"] (SpD K (gWRow)) := by
  have G_are_whole := ok_are_whole (P := P) (w := w) (base := base) T
  have b_are_whole := T.b_are_whole
  refine T.F_is_whole_row.ok sc_is_whole_row (spd_len (k := 2) fun ss S r S' hg => ?_) (fun cdv A outer s H vs Q E hr h => ⟨_, (pss_one (ps_ret (pe_and (pe_callB call_isi (by rfl) T.n_isinstance (by decide +kernel) (pa_cons (pv 0) (pa_cons (pe_bltn (v := .ty "tuple") (by rfl) T.n_tuple (by decide +kernel) rfl) pa_nil))) (pe_and (pe_cmpR op_eq (pe_callB (call_lenK K) (by rfl) T.n_len (by decide +kernel) (pa_cons (pv 0) pa_nil)) (pv 1) (nomark _)) (pe_one (pe_call G_are_whole (hr.mono (by decide)) rfl T.m_are_whole T.k_are_whole b_are_whole .nil pass0 (pa_cons (pv 0) pa_nil))))))), sp_body h fun ss S r S' hg => ?_⟩)
  · obtain ⟨d, n, rfl, _⟩ := hg; rfl
  · obtain ⟨d, n, rfl, hd, rfl, rfl⟩ := hg
    refine sp_ret (d := .bl (wrowB d n)) ?_ ⟨rfl, List.take_length⟩
    cases ht : isTupD d with
    | false =>
      rw [not_tup ht]
      exact ev_andV (a := false) (b := false) (Ev.to (ev_cb (ea_cons (ev_var rfl) (ea_cons ev_ty ea_nil)) (ck_tup hd)) (by rw [ht])) fun h => by cases h
    | true =>
      obtain ⟨xs, rfl⟩ := tup_of ht
      have hx : ∀ x ∈ xs, KD x := by cases hd with | tup h l => exact h
      exact ev_andV (a := true) (ev_cb (ea_cons (ev_var rfl) (ea_cons ev_ty ea_nil)) (ck_tup hd)) fun _ => ev_andV (ev_op (ev_cb (ea_cons (ev_var rfl) ea_nil) (cd_len .tup)) (ev_var rfl) len_eq) fun _ => ev_call (ea_cons (ev_var rfl) ea_nil) ⟨xs, rfl, hx, rfl, rfl⟩
theorem ok_are_short (T : Txt K mg) : FnOk P w K mg base CX0 1 T.a_are_short T.d_are_short ["values"] (SpD K (gShorts)) := by
  refine T.F_are_short.ok sc_are_short (spd_len (k := 1) fun ss S r S' hg => ?_) (fun cdv A outer s H vs Q E hr h => ⟨_, (pss_cons (ps_for PassesOwn.never rfl (pi_seqK K (pv 0)) (pg_name (i := 1) sc_are_short.nd rfl (by first | exact Or.inl rfl | exact Or.inr rfl)) (pss_one (ps_if (PW.pt (pw_or (pt_not (pt_truK K (pe_callB call_isi (by rfl) T.n_isinstance (by decide +kernel) (pa_cons (pv 1) (pa_cons (pe_bltn (v := .ty "int") (by rfl) T.n_int (by decide +kernel) rfl) pa_nil))))) (pw_or (pt_cmpR op_isX (pv 1) pe_bl (nomark _)) (pw_or (pt_cmpR op_isX (pv 1) pe_bl (nomark _)) (pw_or (pt_cmpR op_le (pv 1) (pe_glob (v := .int (-(10 ^ 60))) rfl T.m_BENEATH ⟨_, rfl⟩) (nomark _)) (pw_or1 (pt_cmpR op_ge (pv 1) (pe_glob (v := .int (10 ^ 60)) rfl T.m_BEYOND ⟨_, rfl⟩) (nomark _)))))))) (pss_one (ps_ret pe_bl)) pss_nil))) (pss_one (ps_ret pe_bl))), sp_body h fun ss S r S' hg => ?_⟩)
  · obtain ⟨i, rfl, _⟩ := hg; rfl
  · obtain ⟨xs, rfl, hk, rfl, rfl⟩ := hg
    refine sp_seq (P' := { nx := fun env' S2 => S2 = S' ∧ xs.all shD = true ∧ ∃ o1, env' = [some (.d (.tup xs)), o1] })
      (sp_forA (xs := xs) (g := id) (it_tup (Ev.to (ev_var rfl) (by rw [List.map_id]))) (fun i env' S2 => S2 = S' ∧ (xs.take i).all shD = true ∧ ∃ o1, env' = [some (.d (.tup xs)), o1]) ⟨rfl, rfl, none, rfl⟩ (fun _ _ _ _ _ _ _ _ _ => trivial) ?_ ?_) ?_
    · rintro i x env' S2 hx ⟨rfl, ha, o1, rfl⟩
      refine ⟨[1], fun env => env.set 1 (some (.d x)), tg_name, ?_⟩
      refine sp_if (b := !shD x) (et_bad (hk x (List.mem_of_getElem? hx)) rfl) (fun h => ?_) fun h => sp_next ⟨rfl, ?_, _, rfl⟩
      · refine sp_ret ev_bl ⟨?_, List.take_length⟩
        have hf : shD x = false := by simpa using h
        have : xs.all shD = false := List.all_eq_false.mpr ⟨x, List.mem_of_getElem? hx, by rw [hf]; decide⟩
        rw [this]
      · have ht : shD x = true := by simpa using h
        obtain ⟨hl, e⟩ := List.getElem?_eq_some_iff.mp hx
        rw [List.take_succ_eq_append_getElem hl, e, List.all_append, ha]
        simp [ht]
    · rintro env' S2 ⟨rfl, ha, o1, rfl⟩
      rw [List.take_length] at ha
      exact ⟨rfl, ha, o1, rfl⟩
    · rintro env' S2 ⟨rfl, ha, o1, rfl⟩
      exact sp_ret ev_bl ⟨by rw [ha], List.take_length⟩
theorem ok_is_short_row (T : Txt K mg) : FnOk P w K mg base CX0 2 T.a_is_short_row T.d_is_short_row ["value", "least", "most"] (SpD K (gSRow)) := by
  have G_are_short := ok_are_short (P := P) (w := w) (base := base) T
  have b_are_short := T.b_are_short
  refine T.F_is_short_row.ok sc_is_short_row (spd_len (k := 3) fun ss S r S' hg => ?_) (fun cdv A outer s H vs Q E hr h => ⟨_, (pss_one (ps_ret (pe_and (pe_callB call_isi (by rfl) T.n_isinstance (by decide +kernel) (pa_cons (pv 0) (pa_cons (pe_bltn (v := .ty "tuple") (by rfl) T.n_tuple (by decide +kernel) rfl) pa_nil))) (pe_and (pe_chain op_le op_le (pv 1) (pe_callB (call_lenK K) (by rfl) T.n_len (by decide +kernel) (pa_cons (pv 0) pa_nil)) (pv 2)) (pe_one (pe_call G_are_short (hr.mono (by decide)) rfl T.m_are_short T.k_are_short b_are_short .nil pass0 (pa_cons (pv 0) pa_nil))))))), sp_body h fun ss S r S' hg => ?_⟩)
  · obtain ⟨d, lo, hi, rfl, _⟩ := hg; rfl
  · obtain ⟨d, lo, hi, rfl, hd, rfl, rfl⟩ := hg
    refine sp_ret (d := .bl (srB d lo hi)) ?_ ⟨rfl, List.take_length⟩
    cases ht : isTupD d with
    | false =>
      rw [not_sr ht]
      exact ev_andV (a := false) (b := false) (Ev.to (ev_cb (ea_cons (ev_var rfl) (ea_cons ev_ty ea_nil)) (ck_tup hd)) (by rw [ht])) fun h => by cases h
    | true =>
      obtain ⟨xs, rfl⟩ := tup_of ht
      have hx : ∀ x ∈ xs, KD x := by cases hd with | tup h l => exact h
      exact ev_andV (a := true) (ev_cb (ea_cons (ev_var rfl) (ea_cons ev_ty ea_nil)) (ck_tup hd)) fun _ => ev_andV (ev_chain (ev_var rfl) (ev_cb (ea_cons (ev_var rfl) ea_nil) (cd_len .tup)) o_le (fun _ => ev_var rfl) fun _ => o_le) fun _ => ev_call (ea_cons (ev_var rfl) ea_nil) ⟨xs, rfl, hx, rfl, rfl⟩
end
end N46

set_option Elab.async false
set_option linter.all false
set_option maxRecDepth 100000
set_option maxHeartbeats 4000000
namespace N46
open PySem PySem.Spec PyProof.Rows L2 RW

abbrev prD (p : Int × Int) : Dat := .tup [.int p.1, .int p.2]
def SmI (i : Int) : Prop := i.natAbs.log2 < 1000
def SmP (p : Int × Int) : Prop := SmI p.1 ∧ SmI p.2
theorem cm_of {i j : Int} (hi : SmI i) (hj : SmI j) : CMulW i j := by
  unfold SmI at hi hj
  show i.natAbs.log2 + j.natAbs.log2 < 1000000
  omega
theorem o_mulW {K : PySem.W.Frag} {S : List Dat} {i j : Int} (h : CMulW i j) : Op2 K (rI CMulW fun i j => V.int (i * j)) (.d (.int i)) (.d (.int j)) S (.int (i * j)) := op2_int h fun B => .int _
def detF (p q : Int × Int) : Int := p.1 * q.2 - p.2 * q.1
def quartF (p : Int × Int) : Int := if 0 < p.1 ∧ 0 ≤ p.2 then 0 else if 0 < p.2 then 1 else if p.1 < 0 then 2 else 3
def aheadB (p q : Int × Int) : Bool := if quartF p = quartF q then decide (0 < detF p q) else decide (quartF p < quartF q)
def turnB (L : List (Int × Int)) : Bool := (L.zip L.tail).all fun z => aheadB z.1 z.2
def rayB : Dat → Bool
  | .tup [.int a, .int b] => decide (Nat.gcd a.natAbs b.natAbs = 1)
  | _ => false
def gDet (ss : List Sl) (S : List Dat) (r : Dat) (S' : List Dat) : Prop := ∃ (p q : Int × Int), ss = [.d (prD p), .d (prD q)] ∧ SmP p ∧ SmP q ∧ r = .int (detF p q) ∧ S' = S
def gQuart (ss : List Sl) (S : List Dat) (r : Dat) (S' : List Dat) : Prop := ∃ (p : Int × Int), ss = [.d (prD p)] ∧ r = .int (quartF p) ∧ S' = S
def gAhead (ss : List Sl) (S : List Dat) (r : Dat) (S' : List Dat) : Prop := ∃ (p q : Int × Int), ss = [.d (prD p), .d (prD q)] ∧ SmP p ∧ SmP q ∧ r = .bl (aheadB p q) ∧ S' = S
def gTurn (ss : List Sl) (S : List Dat) (r : Dat) (S' : List Dat) : Prop := ∃ (L : List (Int × Int)) (d : Dat), ss = [.d d] ∧ (d = .lst (L.map prD) ∨ d = .tup (L.map prD)) ∧ (∀ p ∈ L, SmP p) ∧ r = .bl (turnB L) ∧ S' = S
def gRay (ss : List Sl) (S : List Dat) (r : Dat) (S' : List Dat) : Prop := ∃ d : Dat, ss = [.d d] ∧ KD d ∧ r = .bl (rayB d) ∧ S' = S
theorem drop1 {α : Type} (L : List α) : L.drop 1 = L.tail := List.drop_one
theorem wrow2 {d : Dat} (h : wrowB d 2 = true) : ∃ p : Int × Int, d = prD p := by
  obtain ⟨e, hl⟩ := wrow_row h
  match hm : intsF d, hl with
  | [a, b], _ => exact ⟨(a, b), by rw [e, hm]; rfl⟩
theorem ray_no {d : Dat} (h : wrowB d 2 = false) : rayB d = false := by
  unfold rayB
  split
  · exact absurd h (by simp [wrowB, isI])
  · rfl
theorem gcd1 (a b : Int) : decide (((Nat.gcd a.natAbs b.natAbs : Nat) : Int) = 1) = decide (Nat.gcd a.natAbs b.natAbs = 1) := decide_eq_decide.mpr ⟨fun h => by omega, fun h => by omega⟩
section
variable {P : Program} {w : World} {K : PySem.W.Frag} {mg : Str → Option Value} {base : Heap}

theorem ok_det (T : Txt K mg) : FnOk P w K mg base CX0 1 T.a_det T.d_det ["one", "other"] (SpD K (gDet)) := by
  refine T.F_det.ok sc_det (spd_len (k := 2) fun ss S r S' hg => ?_) (fun cdv A outer s H vs Q E hr h => ⟨_, (pss_one (ps_ret (pe_op op_sub (pe_op op_mulW (pe_ix (ix_seqK K) (pv 0) pe_int (fun _ _ => rfl)) (pe_ix (ix_seqK K) (pv 1) pe_int (fun _ _ => rfl))) (pe_op op_mulW (pe_ix (ix_seqK K) (pv 0) pe_int (fun _ _ => rfl)) (pe_ix (ix_seqK K) (pv 1) pe_int (fun _ _ => rfl)))))), sp_body h fun ss S r S' hg => ?_⟩)
  · obtain ⟨p, q, rfl, _⟩ := hg; rfl
  · obtain ⟨p, q, rfl, hp, hq, rfl, rfl⟩ := hg
    exact sp_ret (ev_op (ev_op (ev_op (ev_var rfl) ev_int (op2_ix (d := .int p.1) .tup at0)) (ev_op (ev_var rfl) ev_int (op2_ix (d := .int q.2) .tup at1)) (o_mulW (cm_of hp.1 hq.2))) (ev_op (ev_op (ev_var rfl) ev_int (op2_ix (d := .int p.2) .tup at1)) (ev_op (ev_var rfl) ev_int (op2_ix (d := .int q.1) .tup at0)) (o_mulW (cm_of hp.2 hq.1))) o_sub) ⟨rfl, List.take_length⟩
theorem ok_quarter_of (T : Txt K mg) : FnOk P w K mg base CX0 1 T.a_quarter_of T.d_quarter_of ["row"] (SpD K (gQuart)) := by
  refine T.F_quarter_of.ok sc_quarter_of (spd_len (k := 1) fun ss S r S' hg => ?_) (fun cdv A outer s H vs Q E hr h => ⟨_, (pss_cons (ps_asg (pv 0) (pg_tup rfl (pgs_cons (pg_name (i := 1) sc_quarter_of.nd rfl (by first | exact Or.inl rfl | exact Or.inr rfl)) (pgs_cons (pg_name (i := 2) sc_quarter_of.nd rfl (by first | exact Or.inl rfl | exact Or.inr rfl)) pgs_nil)))) (pss_cons (ps_if (PW.pt (pw_and (pt_cmpR op_gt (pv 1) pe_int (nomark _)) (pw_and1 (pt_cmpR op_ge (pv 2) pe_int (nomark _))))) (pss_one (ps_ret pe_int)) pss_nil) (pss_cons (ps_if (pt_cmpR op_gt (pv 2) pe_int (nomark _)) (pss_one (ps_ret pe_int)) pss_nil) (pss_one (ps_ret (pe_ifExp (pt_cmpR op_lt (pv 1) pe_int (nomark _)) pe_int pe_int)))))), sp_body h fun ss S r S' hg => ?_⟩)
  · obtain ⟨p, rfl, _⟩ := hg; rfl
  · obtain ⟨p, rfl, rfl, rfl⟩ := hg
    obtain ⟨x, y⟩ := p
    refine sp_asg (S1 := S') (d := prD (x, y)) (ev_var rfl) tg_pair ?_
    refine sp_ifq (b := decide (0 < x) && decide (0 ≤ y)) (et_andP (et_test (ev_op (ev_var rfl) ev_int o_gt)) fun _ => et_test (ev_op (ev_var rfl) ev_int o_ge)) (fun h => ?_) fun h => sp_nextq ?_
    · rw [Bool.and_eq_true, decide_eq_true_eq, decide_eq_true_eq] at h
      refine sp_retq (sp_ret ev_int ⟨?_, List.take_length⟩)
      unfold quartF; rw [if_pos h]
    · have h1 : ¬ (0 < x ∧ 0 ≤ y) := fun z => by rw [decide_eq_true z.1, decide_eq_true z.2] at h; cases h
      refine sp_ifq (b := decide (0 < y)) (et_test (ev_op (ev_var rfl) ev_int o_gt)) (fun h2 => ?_) fun h2 => sp_nextq ?_
      · refine sp_retq (sp_ret ev_int ⟨?_, List.take_length⟩)
        unfold quartF; rw [if_neg h1, if_pos (of_decide_eq_true h2)]
      · have h3 := of_decide_eq_false h2
        refine sp_ret (d := .int (quartF (x, y))) (ev_if (b := decide (x < 0)) (et_test (ev_op (ev_var rfl) ev_int o_lt)) (fun h => Ev.to ev_int ?_) fun h => Ev.to ev_int ?_) ⟨rfl, List.take_length⟩
        · unfold quartF; rw [if_neg h1, if_neg h3, if_pos (of_decide_eq_true h)]
        · unfold quartF; rw [if_neg h1, if_neg h3, if_neg (of_decide_eq_false h)]
theorem ok_is_ahead (T : Txt K mg) : FnOk P w K mg base CX0 2 T.a_is_ahead T.d_is_ahead ["one", "other"] (SpD K (gAhead)) := by
  have G_quarter_of := ok_quarter_of (P := P) (w := w) (base := base) T
  have b_quarter_of := T.b_quarter_of
  have G_det := ok_det (P := P) (w := w) (base := base) T
  have b_det := T.b_det
  refine T.F_is_ahead.ok sc_is_ahead (spd_len (k := 2) fun ss S r S' hg => ?_) (fun cdv A outer s H vs Q E hr h => ⟨_, (pss_cons (ps_par (i := 2) (j := 3) rfl sc_is_ahead.nd rfl rfl (by decide) rfl rfl (pa_cons (pe_call G_quarter_of (hr.mono (by decide)) rfl T.m_quarter_of T.k_quarter_of b_quarter_of .nil pass0 (pa_cons (pv 0) pa_nil)) (pa_cons (pe_call G_quarter_of (hr.mono (by decide)) rfl T.m_quarter_of T.k_quarter_of b_quarter_of .nil pass0 (pa_cons (pv 1) pa_nil)) pa_nil)) (by rfl)) (pss_one (ps_ret (pe_ifExp (pt_cmpR op_ne (pv 2) (pv 3) (nomark _)) (pe_cmpR op_lt (pv 2) (pv 3) (nomark _)) (pe_cmpR op_gt (pe_call G_det (hr.mono (by decide)) rfl T.m_det T.k_det b_det .nil pass0 (pa_cons (pv 0) (pa_cons (pv 1) pa_nil))) pe_int (nomark _)))))), sp_body h fun ss S r S' hg => ?_⟩)
  · obtain ⟨p, q, rfl, _⟩ := hg; rfl
  · obtain ⟨p, q, rfl, hp, hq, rfl, rfl⟩ := hg
    refine sp_par (ea_cons (ev_call (ea_cons (ev_var rfl) ea_nil) ⟨p, rfl, rfl, rfl⟩) (ea_cons (ev_call (ea_cons (ev_var rfl) ea_nil) ⟨q, rfl, rfl, rfl⟩) ea_nil)) ?_
    refine sp_ret (d := .bl (aheadB p q)) (ev_if (b := !decide (quartF p = quartF q)) (et_test (ev_op (ev_var rfl) (ev_var rfl) op2_ne_int)) (fun h => Ev.to (ev_op (ev_var rfl) (ev_var rfl) o_lt) ?_) fun h => Ev.to (ev_op (ev_call (ea_cons (ev_var rfl) (ea_cons (ev_var rfl) ea_nil)) ⟨p, q, rfl, hp, hq, rfl, rfl⟩) ev_int o_gt) ?_) ⟨rfl, List.take_length⟩
    · have h1 : ¬ quartF p = quartF q := by simpa using h
      unfold aheadB; rw [if_neg h1]
    · have h1 : quartF p = quartF q := by simpa using h
      unfold aheadB; rw [if_pos h1]
theorem ok_are_in_turn (T : Txt K mg) : FnOk P w K mg base CX0 3 T.a_are_in_turn T.d_are_in_turn ["rows"] (SpD K (gTurn)) := by
  have G_is_ahead := ok_is_ahead (P := P) (w := w) (base := base) T
  have b_is_ahead := T.b_is_ahead
  refine T.F_are_in_turn.ok sc_are_in_turn (spd_len (k := 1) fun ss S r S' hg => ?_) (fun cdv A outer s H vs Q E hr h => ⟨_, (pss_cons (ps_for PassesOwn.never rfl (pi_zipGK K (by rfl) T.n_zip (pa_cons (pv 0) (pa_cons (pe_slice (sl_any K) (pv 0) (po_some pe_int) po_none) pa_nil))) (pg_tup rfl (pgs_cons (pg_name (i := 1) sc_are_in_turn.nd rfl (by first | exact Or.inl rfl | exact Or.inr rfl)) (pgs_cons (pg_name (i := 2) sc_are_in_turn.nd rfl (by first | exact Or.inl rfl | exact Or.inr rfl)) pgs_nil))) (pss_one (ps_if (pt_not (pt_truK K (pe_call G_is_ahead (hr.mono (by decide)) rfl T.m_is_ahead T.k_is_ahead b_is_ahead .nil pass0 (pa_cons (pv 1) (pa_cons (pv 2) pa_nil))))) (pss_one (ps_ret pe_bl)) pss_nil))) (pss_one (ps_ret pe_bl))), sp_body h fun ss S r S' hg => ?_⟩)
  · obtain ⟨L, d, rfl, _⟩ := hg; rfl
  · obtain ⟨L, d, rfl, hd, hs, rfl, rfl⟩ := hg
    have hit : IterD K (iZipG K (tCons (tVar 0) (tCons (tSl (rSlE K) (tVar 0) (tPart (tC (.int 1))) tNoPart) tNil))) [some (.d d), none, none] S' G0 ((L.zip L.tail).map fun z => Dat.tup [prD z.1, prD z.2]) S' := by
      rcases hd with rfl | rfl
      · refine it_zipA (x := .lst (L.map prD)) (y := .lst (L.tail.map prD)) (ea_cons (ev_var rfl) (ea_cons (Ev.to (ev_slEl (ev_var rfl) (eo_some (ev_int (i := 1))) eo_none) ?_) ea_nil)) .lst .lst
        rw [cut1, ← List.map_drop, drop1]
      · refine it_zipA (x := .tup (L.map prD)) (y := .tup (L.tail.map prD)) (ea_cons (ev_var rfl) (ea_cons (Ev.to (ev_slEt (ev_var rfl) (eo_some (ev_int (i := 1))) eo_none) ?_) ea_nil)) .tup .tup
        rw [cut1, ← List.map_drop, drop1]
    refine sp_seq (P' := { nx := fun env' S2 => S2 = S' ∧ turnB L = true ∧ ∃ o1 o2, env' = [some (.d d), o1, o2] })
      (sp_forA (xs := L.zip L.tail) (g := fun z => Dat.tup [prD z.1, prD z.2]) hit (fun i env' S2 => S2 = S' ∧ ((L.zip L.tail).take i).all (fun z => aheadB z.1 z.2) = true ∧ ∃ o1 o2, env' = [some (.d d), o1, o2]) ⟨rfl, rfl, none, none, rfl⟩ (fun _ _ _ _ _ _ _ _ _ => trivial) ?_ ?_) ?_
    · rintro i z env' S2 hz ⟨rfl, ha, o1, o2, rfl⟩
      obtain ⟨p, q⟩ := z
      refine ⟨[1, 2], fun env => (env.set 1 (some (.d (prD p)))).set 2 (some (.d (prD q))), tg_pair, ?_⟩
      have hm := List.mem_of_getElem? hz
      have h1 := hs p (List.of_mem_zip hm).1
      have h2 := hs q (List.mem_of_mem_tail (List.of_mem_zip hm).2)
      refine sp_if (b := !aheadB p q) (et_not (et_bl (ev_call (ea_cons (ev_var rfl) (ea_cons (ev_var rfl) ea_nil)) ⟨p, q, rfl, h1, h2, rfl, rfl⟩))) (fun h => ?_) fun h => sp_next ⟨rfl, ?_, _, _, rfl⟩
      · refine sp_ret ev_bl ⟨?_, List.take_length⟩
        have hf : aheadB p q = false := by simpa using h
        have : turnB L = false := List.all_eq_false.mpr ⟨_, hm, by rw [hf]; decide⟩
        rw [this]
      · have ht : aheadB p q = true := by simpa using h
        obtain ⟨hl, e⟩ := List.getElem?_eq_some_iff.mp hz
        rw [List.take_succ_eq_append_getElem hl, e, List.all_append, ha]
        simp [ht]
    · rintro env' S2 ⟨rfl, ha, o1, o2, rfl⟩
      rw [List.take_length] at ha
      exact ⟨rfl, ha, o1, o2, rfl⟩
    · rintro env' S2 ⟨rfl, ha, o1, o2, rfl⟩
      exact sp_ret ev_bl ⟨by rw [ha], List.take_length⟩
theorem ok_is_ray (T : Txt K mg) : FnOk P w K mg base CX0 3 T.a_is_ray T.d_is_ray ["value"] (SpD K (gRay)) := by
  have G_is_whole_row := ok_is_whole_row (P := P) (w := w) (base := base) T
  have b_is_whole_row := T.b_is_whole_row
  refine T.F_is_ray.ok sc_is_ray (spd_len (k := 1) fun ss S r S' hg => ?_) (fun cdv A outer s H vs Q E hr h => ⟨_, (pss_one (ps_ret (pe_and (pe_call G_is_whole_row (hr.mono (by decide)) rfl T.m_is_whole_row T.k_is_whole_row b_is_whole_row .nil pass0 (pa_cons (pv 0) (pa_cons pe_int pa_nil))) (pe_one (pe_cmpR op_eq (pe_callBfun cr_gcd rfl T.m_gcd (pa_cons (pe_ix (ix_seqK K) (pv 0) pe_int (fun _ _ => rfl)) (pa_cons (pe_ix (ix_seqK K) (pv 0) pe_int (fun _ _ => rfl)) pa_nil))) pe_int (nomark _)))))), sp_body h fun ss S r S' hg => ?_⟩)
  · obtain ⟨d, rfl, _⟩ := hg; rfl
  · obtain ⟨d, rfl, hd, rfl, rfl⟩ := hg
    refine sp_ret (d := .bl (rayB d)) ?_ ⟨rfl, List.take_length⟩
    have h1 : ∀ {env : Env1} {S : List Dat}, env[0]? = some (some (.d d)) → Ev K (tCall (SpD K gWRow) [] E0 (tCons (tVar 0) (tCons (tC (.int 2)) tNil))) env S (.d (.bl (wrowB d 2))) S := fun he => ev_call (ea_cons (ev_var he) (ea_cons ev_int ea_nil)) ⟨d, 2, rfl, hd, rfl, rfl⟩
    cases hw : wrowB d 2 with
    | false =>
      rw [ray_no hw]
      exact ev_andV (a := false) (b := false) (Ev.to (h1 rfl) (by rw [hw])) fun h => by cases h
    | true =>
      obtain ⟨p, rfl⟩ := wrow2 hw
      exact Ev.to (ev_andV (a := true) (b := decide (((Nat.gcd p.1.natAbs p.2.natAbs : Nat) : Int) = 1)) (Ev.to (h1 rfl) (by rw [hw])) fun _ => ev_op (ev_cb (ea_cons (ev_op (ev_var rfl) ev_int (op2_ix (d := .int p.1) .tup at0)) (ea_cons (ev_op (ev_var rfl) ev_int (op2_ix (d := .int p.2) .tup at1)) ea_nil)) cd_gcd) ev_int op2_eq_int) (by rw [gcd1]; rfl)
end
end N46

set_option Elab.async false
set_option linter.all false
set_option maxRecDepth 100000
set_option maxHeartbeats 4000000
namespace N46
open PySem PySem.Spec PyProof.Rows L2 RW

theorem szd {n : Nat} (h : n ≤ 1000) : n ≤ sizeLine := size_1000 h
theorem kn : ∀ d ∈ ([] : List Dat), KD d := fun _ h => by cases h
theorem kc {x : Dat} {xs : List Dat} (h : KD x) (t : ∀ d ∈ xs, KD d) : ∀ d ∈ x :: xs, KD d := fun d hd => by
  rcases List.mem_cons.mp hd with rfl | hd
  · exact h
  · exact t d hd
abbrev bdD (z : (Int × Int) × Int) : Dat := .tup [prD z.1, .int z.2]
def rowP : Dat → Int × Int
  | .tup [.int a, .int b] => (a, b)
  | _ => (0, 0)
def bdP : Dat → (Int × Int) × Int
  | .tup [r, c] => (rowP r, RW.intD c)
  | _ => ((0, 0), 0)
def smI : Dat → Bool
  | .int i => decide (i.natAbs.log2 < 1000)
  | _ => true
def smR (d : Dat) : Bool := (innD d).all smI
def smC : Dat → Bool
  | .tup [r, c] => smR r && smI c
  | _ => true
def smB (d : Dat) : Bool := (innD d).all smC
def smF (d : Dat) : Bool := (innD d).all smR
def smT : Dat → Bool
  | .tup [_, b] => smB b
  | _ => true
def bendB : Dat → Bool
  | .tup [r, c] => rayB r && (isI c && !decide (RW.intD c = 0))
  | _ => false
def bendsB : Dat → Bool
  | .tup xs => xs.all bendB && turnB (xs.map fun p => (bdP p).1)
  | _ => false
def sum0 (b : Dat) : Int := ((innD b).map fun p => (bdP p).1.1 * (bdP p).2).sum
def sum1 (b : Dat) : Int := ((innD b).map fun p => (bdP p).1.2 * (bdP p).2).sum
def roundB : Dat → Bool
  | .tup [f, b] => wrowB f 2 && (bendsB b && (decide (sum0 b = 0) && decide (sum1 b = 0)))
  | _ => false
def smoothB : Dat → Bool
  | .tup xs => decide (3 ≤ xs.length) && (xs.all rayB && (turnB (xs.map rowP) && ((xs.map rowP).zip ((xs.map rowP).tail ++ (xs.map rowP).take 1)).all fun z => decide (detF z.1 z.2 = 1)))
  | _ => false
theorem ray_pr {d : Dat} (h : rayB d = true) : d = prD (rowP d) := by
  unfold rayB at h
  split at h
  · rfl
  · cases h
theorem bend_pr {d : Dat} (h : bendB d = true) : d = bdD (bdP d) := by
  unfold bendB at h
  split at h
  · rename_i r c
    rw [Bool.and_eq_true, Bool.and_eq_true] at h
    show Dat.tup [r, c] = .tup [prD (rowP r), .int (RW.intD c)]
    rw [← ray_pr h.1, ← isI_int h.2.1]
  · cases h
theorem all_pr {xs : List Dat} (h : xs.all rayB = true) : xs = (xs.map rowP).map prD := by
  rw [List.map_map]
  conv => lhs; rw [← List.map_id xs]
  refine List.map_congr_left fun x hx => ?_
  exact ray_pr (List.all_eq_true.mp h x hx)
theorem all_bd {xs : List Dat} (h : xs.all bendB = true) : xs = (xs.map bdP).map bdD := by
  rw [List.map_map]
  conv => lhs; rw [← List.map_id xs]
  refine List.map_congr_left fun x hx => ?_
  exact bend_pr (List.all_eq_true.mp h x hx)
theorem sm_pr {p : Int × Int} (h : smR (prD p) = true) : SmP p := by
  unfold smR at h
  simp only [innD, List.all_cons, List.all_nil, Bool.and_true, Bool.and_eq_true] at h
  exact ⟨(show p.1.natAbs.log2 < 1000 from of_decide_eq_true h.1), (show p.2.natAbs.log2 < 1000 from of_decide_eq_true h.2)⟩
theorem sm_bd {z : (Int × Int) × Int} (h : smC (bdD z) = true) : SmP z.1 ∧ SmI z.2 := by
  have h : (smR (prD z.1) && smI (.int z.2)) = true := h
  rw [Bool.and_eq_true] at h
  exact ⟨sm_pr h.1, (show z.2.natAbs.log2 < 1000 from of_decide_eq_true h.2)⟩
theorem cutT1 {xs : List Dat} : RW.cutD xs none (some 1) = xs.take 1 := by
  unfold RW.cutD
  have e1 : HT.sIx xs.length 0 none = 0 := rfl
  have e2 : HT.sIx xs.length xs.length (some 1) = min 1 xs.length := rfl
  rw [e1, e2, List.drop_zero, Nat.sub_zero]
  cases xs with
  | nil => rfl
  | cons x r =>
    rw [show min 1 (x :: r).length = 1 by simp]
theorem not_bends {d : Dat} (h : isTupD d = false) : bendsB d = false := by
  cases d <;> first | rfl | (simp [isTupD] at h)
theorem not_round {d : Dat} (h : isTupD d = false) : roundB d = false := by
  cases d <;> first | rfl | (simp [isTupD] at h)
theorem not_smooth {d : Dat} (h : isTupD d = false) : smoothB d = false := by
  cases d <;> first | rfl | (simp [isTupD] at h)
theorem not_bend {d : Dat} (h : isTupD d = false) : bendB d = false := by
  cases d <;> first | rfl | (simp [isTupD] at h)
theorem bend_len {xs : List Dat} (h : ¬ xs.length = 2) : bendB (.tup xs) = false := by
  match xs, h with
  | [], _ => rfl
  | [_], _ => rfl
  | [_, _], h => exact absurd rfl h
  | _ :: _ :: _ :: _, _ => rfl
theorem round_len {xs : List Dat} (h : ¬ xs.length = 2) : roundB (.tup xs) = false := by
  match xs, h with
  | [], _ => rfl
  | [_], _ => rfl
  | [_, _], h => exact absurd rfl h
  | _ :: _ :: _ :: _, _ => rfl
theorem kd_len {xs : List Dat} (h : KD (.tup xs)) : xs.length ≤ 1000 := by cases h; assumption
def gBends (ss : List Sl) (S : List Dat) (r : Dat) (S' : List Dat) : Prop := ∃ d : Dat, ss = [.d d] ∧ KD d ∧ smB d = true ∧ r = .bl (bendsB d) ∧ S' = S
def gRound (ss : List Sl) (S : List Dat) (r : Dat) (S' : List Dat) : Prop := ∃ d : Dat, ss = [.d d] ∧ KD d ∧ smT d = true ∧ r = .bl (roundB d) ∧ S' = S
def gSmooth (ss : List Sl) (S : List Dat) (r : Dat) (S' : List Dat) : Prop := ∃ d : Dat, ss = [.d d] ∧ KD d ∧ smF d = true ∧ r = .bl (smoothB d) ∧ S' = S
section
variable {P : Program} {w : World} {K : PySem.W.Frag} {mg : Str → Option Value} {base : Heap}

theorem ok_are_bends (T : Txt K mg) : FnOk P w K mg base CX0 4 T.a_are_bends T.d_are_bends ["value"] (SpD K (gBends)) := by
  have G_is_ray := ok_is_ray (P := P) (w := w) (base := base) T
  have b_is_ray := T.b_is_ray
  have G_is_whole := ok_is_whole (P := P) (w := w) (base := base) T
  have b_is_whole := T.b_is_whole
  have G_are_in_turn := ok_are_in_turn (P := P) (w := w) (base := base) T
  have b_are_in_turn := T.b_are_in_turn
  refine T.F_are_bends.ok sc_are_bends (spd_len (k := 1) fun ss S r S' hg => ?_) (fun cdv A outer s H vs Q E hr h => ⟨_, (pss_cons (ps_if (pt_not (pt_truK K (pe_callB call_isi (by rfl) T.n_isinstance (by decide +kernel) (pa_cons (pv 0) (pa_cons (pe_bltn (v := .ty "tuple") (by rfl) T.n_tuple (by decide +kernel) rfl) pa_nil))))) (pss_one (ps_ret pe_bl)) pss_nil) (pss_cons (ps_for PassesOwn.never rfl (pi_seqK K (pv 0)) (pg_name (i := 1) sc_are_bends.nd rfl (by first | exact Or.inl rfl | exact Or.inr rfl)) (pss_cons (ps_if (PW.pt (pw_or (pt_not (pt_truK K (pe_callB call_isi (by rfl) T.n_isinstance (by decide +kernel) (pa_cons (pv 1) (pa_cons (pe_bltn (v := .ty "tuple") (by rfl) T.n_tuple (by decide +kernel) rfl) pa_nil))))) (pw_or1 (pt_cmpR op_ne (pe_callB (call_lenK K) (by rfl) T.n_len (by decide +kernel) (pa_cons (pv 1) pa_nil)) pe_int (nomark _))))) (pss_one (ps_ret pe_bl)) pss_nil) (pss_one (ps_if (PW.pt (pw_or (pt_not (pt_truK K (pe_call G_is_ray (hr.mono (by decide)) rfl T.m_is_ray T.k_is_ray b_is_ray .nil pass0 (pa_cons (pe_ix (ix_seqK K) (pv 1) pe_int (fun _ _ => rfl)) pa_nil)))) (pw_or (pt_not (pt_truK K (pe_call G_is_whole (hr.mono (by decide)) rfl T.m_is_whole T.k_is_whole b_is_whole .nil pass0 (pa_cons (pe_ix (ix_seqK K) (pv 1) pe_int (fun _ _ => rfl)) pa_nil)))) (pw_or1 (pt_cmpR op_eq (pe_ix (ix_seqK K) (pv 1) pe_int (fun _ _ => rfl)) pe_int (nomark _)))))) (pss_one (ps_ret pe_bl)) pss_nil)))) (pss_one (ps_ret (pe_call G_are_in_turn (hr.mono (by decide)) rfl T.m_are_in_turn T.k_are_in_turn b_are_in_turn .nil pass0 (pa_cons (pe_lc (own := [("ray", 2), ("_", 3)]) (g := gTup K 2 (gCons (gName 2) (gCons (gName 3) gNil))) rfl sc_are_bends.nd (pi_seqK K (pv 0)) (blkOk_by (own := [("ray", 2), ("_", 3)]) (N := ["value", "pair", "ray", "_"]) (sc := (defScope s_are_bends)) (by decide +kernel)) (fun _ _ _ _ _ => (pg_tup rfl (pgs_cons (pg_name (i := 2) sc_are_bends.nd rfl (by first | exact Or.inl rfl | exact Or.inr rfl)) (pgs_cons (pg_name (i := 3) sc_are_bends.nd rfl (by first | exact Or.inl rfl | exact Or.inr rfl)) pgs_nil)))) (fun _ _ _ _ _ => pts_nil) (fun _ _ _ _ _ => (pv 2))) pa_nil)))))), sp_body h fun ss S r S' hg => ?_⟩)
  · obtain ⟨d, rfl, _⟩ := hg; rfl
  · obtain ⟨d, rfl, hd, hs, rfl, rfl⟩ := hg
    refine sp_ifq (b := !isTupD d) (et_not (et_bl (ev_cb (ea_cons (ev_var rfl) (ea_cons ev_ty ea_nil)) (ck_tup hd)))) (fun h => sp_retq (sp_ret ev_bl ⟨by rw [not_bends (by simpa using h)], List.take_length⟩)) fun h => sp_nextq ?_
    obtain ⟨xs, rfl⟩ := tup_of (d := d) (by simpa using h)
    clear h
    have hin := kd_inn hd
    refine sp_seq (P' := { nx := fun env' S2 => S2 = S' ∧ xs.all bendB = true ∧ ∃ o1, env' = [some (.d (.tup xs)), o1, none, none] })
      (sp_forA (xs := xs) (g := id) (it_tup (Ev.to (ev_var rfl) (by rw [List.map_id]))) (fun i env' S2 => S2 = S' ∧ (xs.take i).all bendB = true ∧ ∃ o1, env' = [some (.d (.tup xs)), o1, none, none]) ⟨rfl, rfl, none, rfl⟩ (fun _ _ _ _ _ _ _ _ _ => trivial) ?_ ?_) ?_
    · rintro i p env' S2 hp ⟨rfl, ha, o1, rfl⟩
      refine ⟨[1], fun env => env.set 1 (some (.d p)), tg_name, ?_⟩
      obtain ⟨hl, e⟩ := List.getElem?_eq_some_iff.mp hp
      have hm := List.mem_of_getElem? hp
      have hk := hin p hm
      have bad : bendB p = false → Dat.bl false = .bl (bendsB (.tup xs)) := fun hf => by
        have : bendsB (.tup xs) = false := by
          show (xs.all bendB && _) = false
          rw [List.all_eq_false.mpr ⟨p, hm, by rw [hf]; decide⟩]; rfl
        rw [this]
      have hT : EvT K _ [some (.d (.tup xs)), some (.d p), none, none] S2 (!isTupD p) S2 := et_not (et_bl (ev_cb (ea_cons (ev_var (i := 1) rfl) (ea_cons ev_ty ea_nil)) (ck_tup hk)))
      cases ht : isTupD p with
      | false =>
        rw [ht] at hT
        exact sp_ifq (b := true) (et_orP (a := true) (b := false) hT fun h => by cases h) (fun _ => sp_retq (sp_ret ev_bl ⟨bad (not_bend ht), List.take_length⟩)) (fun h => by cases h)
      | true =>
        rw [ht] at hT
        obtain ⟨ys, rfl⟩ := tup_of ht
        have hC := et_test (ev_op (K := K) (env := [some (.d (.tup xs)), some (.d (.tup ys)), none, none]) (S := S2) (ev_cb (ea_cons (ev_var (i := 1) rfl) ea_nil) (cd_len .tup)) (ev_int (i := 2)) (op2_ne_int (K := K) (i := (ys.length : Int)) (j := 2)))
        by_cases hy : ys.length = 2
        case neg =>
          refine sp_ifq (b := true) (et_orP (a := false) (b := true) hT fun _ => hC.to ?_) (fun _ => sp_retq (sp_ret ev_bl ⟨bad (bend_len hy), List.take_length⟩)) (fun h => by cases h)
          show (!decide _) = true
          rw [decide_eq_false (by omega)]; rfl
        case pos =>
          match ys, hy with
          | [r, c], _ =>
            refine sp_ifq (b := false) (et_orP (a := false) (b := false) hT fun _ => hC.to rfl) (fun h => by cases h) fun _ => sp_nextq ?_
            have kr := kd_inn hk r (by simp)
            have kc := kd_inn hk c (by simp)
            have h1 : EvT K _ [some (.d (.tup xs)), some (.d (.tup [r, c])), none, none] S2 (!rayB r) S2 := et_not (et_bl (ev_call (G := gRay) (E := E0) (ea_cons (ev_op (ev_var (i := 1) rfl) (ev_int (i := 0)) (op2_ix (d := r) .tup at0)) ea_nil) ⟨r, rfl, kr, rfl, rfl⟩))
            have h2 : EvT K _ [some (.d (.tup xs)), some (.d (.tup [r, c])), none, none] S2 (!isI c) S2 := et_not (et_bl (ev_call (G := gInt) (E := E0) (ea_cons (ev_op (ev_var (i := 1) rfl) (ev_int (i := 1)) (op2_ix (d := c) .tup at1)) ea_nil) ⟨c, rfl, kc, rfl, rfl⟩))
            refine sp_if (b := !rayB r || (!isI c || decide (RW.intD c = 0))) (et_orP h1 fun _ => et_orP h2 fun hi => ?_) (fun hb => sp_ret ev_bl ⟨bad ?_, List.take_length⟩) fun hb => sp_next ⟨rfl, ?_, _, rfl⟩
            · have ei := isI_int (d := c) (by simpa using hi)
              rw [ei]
              exact et_test (ev_op (ev_op (ev_var rfl) ev_int (op2_ix (d := .int (RW.intD c)) .tup at1)) ev_int op2_eq_int)
            · show (rayB r && (isI c && !decide (RW.intD c = 0))) = false
              revert hb
              cases rayB r <;> cases isI c <;> cases decide (RW.intD c = 0) <;> simp
            · rw [List.take_succ_eq_append_getElem hl, e, List.all_append, ha]
              have : bendB (.tup [r, c]) = true := by
                show (rayB r && (isI c && !decide (RW.intD c = 0))) = true
                revert hb
                cases rayB r <;> cases isI c <;> cases decide (RW.intD c = 0) <;> simp
              simp [this]
    · rintro env' S2 ⟨rfl, ha, o1, rfl⟩
      rw [List.take_length] at ha
      exact ⟨rfl, ha, o1, rfl⟩
    · rintro env' S2 ⟨rfl, ha, o1, rfl⟩
      have ex := all_bd ha
      have hz := kd_len hd
      refine sp_ret (d := .bl (bendsB (.tup xs))) (Ev.to (ev_call (ea_cons (EvN.ev (en_mapA (xs := xs.map bdP) (g := bdD) (is := [2, 3]) (fun z => prD z.1) (it_tup (Ev.to (ev_var rfl) (by rw [← ex]))) (size_1000 (by rw [List.length_map]; exact hz)) (fun _ _ => trivial) (by decide) (fun z env => (env.set 2 (some (.d (prD z.1)))).set 3 (some (.d (.int z.2)))) fun z hz => ⟨tg_pair, ev_var rfl⟩)) ea_nil) ⟨(xs.map bdP).map (·.1), .lst ((xs.map bdP).map fun z => prD z.1), rfl, .inl (by rw [List.map_map (g := prD)]; rfl), ?_, rfl, rfl⟩) ?_) ⟨rfl, List.take_length⟩
      · intro p hp
        obtain ⟨z, hzm, rfl⟩ := List.mem_map.mp hp
        obtain ⟨q, hq, rfl⟩ := List.mem_map.mp hzm
        have h1 := List.all_eq_true.mp hs q hq
        rw [bend_pr (List.all_eq_true.mp ha q hq)] at h1
        exact (sm_bd h1).1
      · show Sl.d (.bl (turnB _)) = .d (.bl (xs.all bendB && turnB _))
        rw [ha, Bool.true_and, List.map_map]; rfl
theorem ok_is_round (T : Txt K mg) : FnOk P w K mg base CX0 5 T.a_is_round T.d_is_round ["value"] (SpD K (gRound)) := by
  have G_is_whole_row := ok_is_whole_row (P := P) (w := w) (base := base) T
  have b_is_whole_row := T.b_is_whole_row
  have G_are_bends := ok_are_bends (P := P) (w := w) (base := base) T
  have b_are_bends := T.b_are_bends
  refine T.F_is_round.ok sc_is_round (spd_len (k := 1) fun ss S r S' hg => ?_) (fun cdv A outer s H vs Q E hr h => ⟨_, (pss_cons (ps_if (PW.pt (pw_or (pt_not (pt_truK K (pe_callB call_isi (by rfl) T.n_isinstance (by decide +kernel) (pa_cons (pv 0) (pa_cons (pe_bltn (v := .ty "tuple") (by rfl) T.n_tuple (by decide +kernel) rfl) pa_nil))))) (pw_or (pt_cmpR op_ne (pe_callB (call_lenK K) (by rfl) T.n_len (by decide +kernel) (pa_cons (pv 0) pa_nil)) pe_int (nomark _)) (pw_or (pt_not (pt_truK K (pe_call G_is_whole_row (hr.mono (by decide)) rfl T.m_is_whole_row T.k_is_whole_row b_is_whole_row .nil pass0 (pa_cons (pe_ix (ix_seqK K) (pv 0) pe_int (fun _ _ => rfl)) (pa_cons pe_int pa_nil))))) (pw_or1 (pt_not (pt_truK K (pe_call G_are_bends (hr.mono (by decide)) rfl T.m_are_bends T.k_are_bends b_are_bends .nil pass0 (pa_cons (pe_ix (ix_seqK K) (pv 0) pe_int (fun _ _ => rfl)) pa_nil))))))))) (pss_one (ps_ret pe_bl)) pss_nil) (pss_one (ps_ret (pe_and (pe_cmpR op_eq (pe_callB (cr_sumK K) (by rfl) T.n_sum (by decide +kernel) (pa_cons (pe_lc (own := [("ray", 1), ("c", 2)]) (g := gTup K 2 (gCons (gName 1) (gCons (gName 2) gNil))) rfl sc_is_round.nd (pi_seqK K (pe_ix (ix_seqK K) (pv 0) pe_int (fun _ _ => rfl))) (blkOk_by (own := [("ray", 1), ("c", 2)]) (N := ["value", "ray", "c"]) (sc := (defScope s_is_round)) (by decide +kernel)) (fun _ _ _ _ _ => (pg_tup rfl (pgs_cons (pg_name (i := 1) sc_is_round.nd rfl (by first | exact Or.inl rfl | exact Or.inr rfl)) (pgs_cons (pg_name (i := 2) sc_is_round.nd rfl (by first | exact Or.inl rfl | exact Or.inr rfl)) pgs_nil)))) (fun _ _ _ _ _ => pts_nil) (fun _ _ _ _ _ => (pe_op op_mulW (pe_ix (ix_seqK K) (pv 1) pe_int (fun _ _ => rfl)) (pv 2)))) pa_nil)) pe_int (nomark _)) (pe_one (pe_cmpR op_eq (pe_callB (cr_sumK K) (by rfl) T.n_sum (by decide +kernel) (pa_cons (pe_lc (own := [("ray", 1), ("c", 2)]) (g := gTup K 2 (gCons (gName 1) (gCons (gName 2) gNil))) rfl sc_is_round.nd (pi_seqK K (pe_ix (ix_seqK K) (pv 0) pe_int (fun _ _ => rfl))) (blkOk_by (own := [("ray", 1), ("c", 2)]) (N := ["value", "ray", "c"]) (sc := (defScope s_is_round)) (by decide +kernel)) (fun _ _ _ _ _ => (pg_tup rfl (pgs_cons (pg_name (i := 1) sc_is_round.nd rfl (by first | exact Or.inl rfl | exact Or.inr rfl)) (pgs_cons (pg_name (i := 2) sc_is_round.nd rfl (by first | exact Or.inl rfl | exact Or.inr rfl)) pgs_nil)))) (fun _ _ _ _ _ => pts_nil) (fun _ _ _ _ _ => (pe_op op_mulW (pe_ix (ix_seqK K) (pv 1) pe_int (fun _ _ => rfl)) (pv 2)))) pa_nil)) pe_int (nomark _))))))), sp_body h fun ss S r S' hg => ?_⟩)
  · obtain ⟨d, rfl, _⟩ := hg; rfl
  · obtain ⟨d, rfl, hd, hs, rfl, rfl⟩ := hg
    have hT : EvT K _ [some (.d d), none, none] S' (!isTupD d) S' := et_not (et_bl (ev_cb (ea_cons (ev_var (i := 0) rfl) (ea_cons ev_ty ea_nil)) (ck_tup hd)))
    cases ht : isTupD d with
    | false =>
      rw [ht] at hT
      exact sp_ifq (b := true) (et_orP (a := true) (b := false) hT fun h => by cases h) (fun _ => sp_retq (sp_ret ev_bl ⟨by rw [not_round ht], List.take_length⟩)) (fun h => by cases h)
    | true =>
      rw [ht] at hT
      obtain ⟨xs, rfl⟩ := tup_of ht
      have hC := et_test (ev_op (K := K) (env := [some (.d (.tup xs)), none, none]) (S := S') (ev_cb (ea_cons (ev_var (i := 0) rfl) ea_nil) (cd_len .tup)) (ev_int (i := 2)) (op2_ne_int (K := K) (i := (xs.length : Int)) (j := 2)))
      by_cases hy : xs.length = 2
      case neg =>
        refine sp_ifq (b := true) (et_orP (a := false) (b := true) hT fun _ => et_orP (a := true) (b := false) (hC.to ?_) fun h => by cases h) (fun _ => sp_retq (sp_ret ev_bl ⟨by rw [round_len hy], List.take_length⟩)) (fun h => by cases h)
        show (!decide _) = true
        rw [decide_eq_false (by omega)]; rfl
      case pos =>
        match xs, hy with
        | [f, b], _ =>
          have kf := kd_inn hd f (by simp)
          have kb := kd_inn hd b (by simp)
          have h1 : EvT K _ [some (.d (.tup [f, b])), none, none] S' (!wrowB f 2) S' := et_not (et_bl (ev_call (G := gWRow) (E := E0) (ea_cons (ev_op (ev_var (i := 0) rfl) (ev_int (i := 0)) (op2_ix (d := f) .tup at0)) (ea_cons (ev_int (i := 2)) ea_nil)) ⟨f, 2, rfl, kf, rfl, rfl⟩))
          have h2 : EvT K _ [some (.d (.tup [f, b])), none, none] S' (!bendsB b) S' := et_not (et_bl (ev_call (G := gBends) (E := E0) (ea_cons (ev_op (ev_var (i := 0) rfl) (ev_int (i := 1)) (op2_ix (d := b) .tup at1)) ea_nil) ⟨b, rfl, kb, hs, rfl, rfl⟩))
          refine sp_ifq (b := !wrowB f 2 || !bendsB b) (et_orP (a := false) hT fun _ => et_orP (a := false) (hC.to rfl) fun _ => et_orP h1 fun _ => h2) (fun hb => sp_retq (sp_ret ev_bl ⟨?_, List.take_length⟩)) fun hb => sp_nextq ?_
          · have : roundB (.tup [f, b]) = false := by
              show (wrowB f 2 && (bendsB b && _)) = false
              revert hb
              cases wrowB f 2 <;> cases bendsB b <;> simp
            rw [this]
          · have hw : wrowB f 2 = true ∧ bendsB b = true := by
              revert hb
              cases wrowB f 2 <;> cases bendsB b <;> simp
            obtain ⟨ys, rfl⟩ : ∃ ys, b = .tup ys := tup_of (by
              cases hb2 : isTupD b with
              | true => rfl
              | false => rw [not_bends hb2] at hw; cases hw.2)
            have ha : ys.all bendB = true := (Bool.and_eq_true _ _ ▸ (show (ys.all bendB && turnB _) = true from hw.2) : _ ∧ _).1
            have ex := all_bd ha
            have hz := kd_len kb
            have hsm : ∀ z ∈ ys.map bdP, SmP z.1 ∧ SmI z.2 := fun z hzm => by
              obtain ⟨q, hq, rfl⟩ := List.mem_map.mp hzm
              have h1 := List.all_eq_true.mp hs q hq
              rw [bend_pr (List.all_eq_true.mp ha q hq)] at h1
              exact sm_bd h1
            refine sp_ret (d := .bl (roundB (.tup [f, .tup ys]))) (Ev.to (ev_andV (a := decide (sum0 (.tup ys) = 0)) (b := decide (sum1 (.tup ys) = 0)) (Ev.to (ev_op (ev_cb (ea_cons (EvN.ev (en_mapA (xs := ys.map bdP) (g := bdD) (is := [1, 2]) (fun z => Dat.int (z.1.1 * z.2)) (it_tup (Ev.to (ev_op (ev_var rfl) ev_int (op2_ix (d := .tup ys) .tup at1)) (by rw [← ex]))) (size_1000 (by rw [List.length_map]; exact hz)) (fun _ _ => trivial) (by decide) (fun z env => (env.set 1 (some (.d (prD z.1)))).set 2 (some (.d (.int z.2)))) fun z hz => ⟨tg_pair, ev_op (ev_op (ev_var rfl) ev_int (op2_ix (d := .int z.1.1) .tup at0)) (ev_var rfl) (o_mulW (cm_of (hsm z hz).1.1 (hsm z hz).2))⟩)) ea_nil) (cd_sum (ns := (ys.map bdP).map fun z => z.1.1 * z.2) (by rw [List.map_map (g := Dat.int)]; exact .lst))) ev_int op2_eq_int) ?_) fun _ => Ev.to (ev_op (ev_cb (ea_cons (EvN.ev (en_mapA (xs := ys.map bdP) (g := bdD) (is := [1, 2]) (fun z => Dat.int (z.1.2 * z.2)) (it_tup (Ev.to (ev_op (ev_var rfl) ev_int (op2_ix (d := .tup ys) .tup at1)) (by rw [← ex]))) (size_1000 (by rw [List.length_map]; exact hz)) (fun _ _ => trivial) (by decide) (fun z env => (env.set 1 (some (.d (prD z.1)))).set 2 (some (.d (.int z.2)))) fun z hz => ⟨tg_pair, ev_op (ev_op (ev_var rfl) ev_int (op2_ix (d := .int z.1.2) .tup at1)) (ev_var rfl) (o_mulW (cm_of (hsm z hz).1.2 (hsm z hz).2))⟩)) ea_nil) (cd_sum (ns := (ys.map bdP).map fun z => z.1.2 * z.2) (by rw [List.map_map (g := Dat.int)]; exact .lst))) ev_int op2_eq_int) ?_) ?_) ⟨rfl, List.take_length⟩
            · rw [List.map_map]; rfl
            · rw [List.map_map]; rfl
            · show _ = Sl.d (.bl (wrowB f 2 && (bendsB (.tup ys) && _)))
              rw [hw.1, hw.2]; rfl
theorem ok_is_smooth (T : Txt K mg) : FnOk P w K mg base CX0 4 T.a_is_smooth T.d_is_smooth ["value"] (SpD K (gSmooth)) := by
  have G_is_ray := ok_is_ray (P := P) (w := w) (base := base) T
  have b_is_ray := T.b_is_ray
  have G_are_in_turn := ok_are_in_turn (P := P) (w := w) (base := base) T
  have b_are_in_turn := T.b_are_in_turn
  have G_det := ok_det (P := P) (w := w) (base := base) T
  have b_det := T.b_det
  refine T.F_is_smooth.ok sc_is_smooth (spd_len (k := 1) fun ss S r S' hg => ?_) (fun cdv A outer s H vs Q E hr h => ⟨_, (pss_cons (ps_if (PW.pt (pw_or (pt_not (pt_truK K (pe_callB call_isi (by rfl) T.n_isinstance (by decide +kernel) (pa_cons (pv 0) (pa_cons (pe_bltn (v := .ty "tuple") (by rfl) T.n_tuple (by decide +kernel) rfl) pa_nil))))) (pw_or (pt_cmpR op_lt (pe_callB (call_lenK K) (by rfl) T.n_len (by decide +kernel) (pa_cons (pv 0) pa_nil)) pe_int (nomark _)) (pw_or1 (pt_not (pt_truK K (pe_callB (cr_allK K) (by rfl) T.n_all (by decide +kernel) (pa_cons (pe_lc (own := [("ray", 1)]) rfl sc_is_smooth.nd (pi_seqK K (pv 0)) (blkOk_by (own := [("ray", 1)]) (N := ["value", "ray", "one", "other"]) (sc := (defScope s_is_smooth)) (by decide +kernel)) (fun _ _ _ _ _ => (pg_name (i := 1) sc_is_smooth.nd rfl (by first | exact Or.inl rfl | exact Or.inr rfl))) (fun _ _ _ _ _ => pts_nil) (fun _ _ _ _ _ => (pe_call G_is_ray (hr.mono (by decide)) rfl T.m_is_ray T.k_is_ray b_is_ray .nil pass0 (pa_cons (pv 1) pa_nil)))) pa_nil)))))))) (pss_one (ps_ret pe_bl)) pss_nil) (pss_cons (ps_if (pt_not (pt_truK K (pe_call G_are_in_turn (hr.mono (by decide)) rfl T.m_are_in_turn T.k_are_in_turn b_are_in_turn .nil pass0 (pa_cons (pv 0) pa_nil)))) (pss_one (ps_ret pe_bl)) pss_nil) (pss_one (ps_ret (pe_callB (cr_allK K) (by rfl) T.n_all (by decide +kernel) (pa_cons (pe_lc (own := [("one", 2), ("other", 3)]) (g := gTup K 2 (gCons (gName 2) (gCons (gName 3) gNil))) rfl sc_is_smooth.nd (pi_zipGK K (by rfl) T.n_zip (pa_cons (pv 0) (pa_cons (pe_op op_catA (pe_slice (sl_tupAK K) (pv 0) (po_some pe_int) po_none) (pe_slice (sl_tupAK K) (pv 0) po_none (po_some pe_int))) pa_nil))) (blkOk_by (own := [("one", 2), ("other", 3)]) (N := ["value", "ray", "one", "other"]) (sc := (defScope s_is_smooth)) (by decide +kernel)) (fun _ _ _ _ _ => (pg_tup rfl (pgs_cons (pg_name (i := 2) sc_is_smooth.nd rfl (by first | exact Or.inl rfl | exact Or.inr rfl)) (pgs_cons (pg_name (i := 3) sc_is_smooth.nd rfl (by first | exact Or.inl rfl | exact Or.inr rfl)) pgs_nil)))) (fun _ _ _ _ _ => pts_nil) (fun _ _ _ _ _ => (pe_cmpR op_eq (pe_call G_det (hr.mono (by decide)) rfl T.m_det T.k_det b_det .nil pass0 (pa_cons (pv 2) (pa_cons (pv 3) pa_nil))) pe_int (nomark _)))) pa_nil)))))), sp_body h fun ss S r S' hg => ?_⟩)
  · obtain ⟨d, rfl, _⟩ := hg; rfl
  · obtain ⟨d, rfl, hd, hs, rfl, rfl⟩ := hg
    have hT : EvT K _ [some (.d d), none, none, none] S' (!isTupD d) S' := et_not (et_bl (ev_cb (ea_cons (ev_var (i := 0) rfl) (ea_cons ev_ty ea_nil)) (ck_tup hd)))
    cases ht : isTupD d with
    | false =>
      rw [ht] at hT
      exact sp_ifq (b := true) (et_orP (a := true) (b := false) hT fun h => by cases h) (fun _ => sp_retq (sp_ret ev_bl ⟨by rw [not_smooth ht], List.take_length⟩)) (fun h => by cases h)
    | true =>
      rw [ht] at hT
      obtain ⟨xs, rfl⟩ := tup_of ht
      have hin := kd_inn hd
      have hz := kd_len hd
      refine sp_ifq (b := decide ((xs.length : Int) < 3) || !xs.all rayB) (et_orP (a := false) hT fun _ => et_orP (et_test (ev_op (ev_cb (ea_cons (ev_var rfl) ea_nil) (cd_len .tup)) ev_int o_lt)) fun _ => et_not (et_bl (Ev.to (ev_cb (ea_cons (EvN.ev (en_mapA (xs := xs) (g := id) (is := [1]) (fun x => Dat.bl (rayB x)) (it_tup (Ev.to (ev_var rfl) (by rw [List.map_id]))) (size_1000 hz) (fun _ _ => trivial) (by decide) (fun x env => env.set 1 (some (.d x))) fun x hx => ⟨tg_name, ev_call (ea_cons (ev_var rfl) ea_nil) ⟨x, rfl, hin x hx, rfl, rfl⟩⟩)) ea_nil) (cd_all (bs := xs.map rayB) (by rw [List.map_map]; exact .lst))) (by rw [List.all_map]; rfl)))) (fun hb => sp_retq (sp_ret ev_bl ⟨?_, List.take_length⟩)) fun hb => sp_nextq ?_
      · have : smoothB (.tup xs) = false := by
          show (decide (3 ≤ xs.length) && (xs.all rayB && _)) = false
          by_cases h3 : 3 ≤ xs.length
          · rw [decide_eq_false (by omega), Bool.false_or] at hb
            have : xs.all rayB = false := by simpa using hb
            rw [this]; simp
          · rw [decide_eq_false h3]; rfl
        rw [this]
      · rw [Bool.or_eq_false_iff] at hb
        have h3 : 3 ≤ xs.length := by have := of_decide_eq_false hb.1; omega
        have ha : xs.all rayB = true := by simpa using hb.2
        have ex := all_pr ha
        have hsm : ∀ p ∈ xs.map rowP, SmP p := fun p hp => by
          obtain ⟨q, hq, rfl⟩ := List.mem_map.mp hp
          have h1 := List.all_eq_true.mp hs q hq
          rw [ray_pr (List.all_eq_true.mp ha q hq)] at h1
          exact sm_pr h1
        have hl : xs.length = (xs.map rowP).length := by rw [List.length_map]
        have e0 : smoothB (.tup xs) = (turnB (xs.map rowP) && ((xs.map rowP).zip ((xs.map rowP).tail ++ (xs.map rowP).take 1)).all fun z => decide (detF z.1 z.2 = 1)) := by
          show (decide (3 ≤ xs.length) && (xs.all rayB && _)) = _
          rw [decide_eq_true h3, ha]; rfl
        rw [e0]
        generalize xs.map rowP = L at ex hsm hl
        subst ex
        clear e0 ha hb hT ht hin hs
        refine sp_ifq (b := !turnB L) (et_not (et_bl (ev_call (E := E0) (ea_cons (ev_var rfl) ea_nil) ⟨L, _, rfl, .inr rfl, hsm, rfl, rfl⟩))) (fun hb => sp_retq (sp_ret ev_bl ⟨?_, List.take_length⟩)) fun hb => sp_nextq ?_
        · have : turnB L = false := by simpa using hb
          rw [this]; rfl
        · have : turnB L = true := by simpa using hb
          rw [this, Bool.true_and]
          refine sp_ret (d := .bl _) (Ev.to (ev_cb (ea_cons (EvN.ev (en_mapA (xs := L.zip (L.tail ++ L.take 1)) (g := fun z => Dat.tup [prD z.1, prD z.2]) (is := [2, 3]) (fun z => Dat.bl (decide (detF z.1 z.2 = 1))) (it_zipA (x := .tup (L.map prD)) (y := .tup ((L.tail ++ L.take 1).map prD)) (ea_cons (ev_var rfl) (ea_cons (Ev.to (ev_op (ev_slT (ev_var rfl) (eo_some ev_int) eo_none) (ev_slT (ev_var rfl) eo_none (eo_some ev_int)) (op2_catT ?_)) ?_) ea_nil)) .tup .tup) (size_1000 ?_) (fun _ _ => trivial) (by decide) (fun z env => (env.set 2 (some (.d (prD z.1)))).set 3 (some (.d (prD z.2)))) fun z hz => ⟨tg_pair, ev_op (ev_call (ea_cons (ev_var rfl) (ea_cons (ev_var rfl) ea_nil)) ⟨z.1, z.2, rfl, hsm _ (List.of_mem_zip hz).1, hsm _ ?_, rfl, rfl⟩) ev_int op2_eq_int⟩)) ea_nil) (cd_all (bs := (L.zip (L.tail ++ L.take 1)).map fun z => decide (detF z.1 z.2 = 1)) (by rw [List.map_map]; exact .lst))) (by rw [List.all_map]; rfl)) ⟨rfl, List.take_length⟩
          · rw [cut1, cutT1]
            refine size_1000 ?_
            rw [← hl] at *
            simp at *
            omega
          · rw [cut1, cutT1, ← List.map_drop, ← List.map_take, drop1, List.map_append]
          · rw [List.length_zip]
            rw [List.length_map] at hz
            omega
          · have := (List.of_mem_zip hz).2
            rcases List.mem_append.mp this with h | h
            · exact List.mem_of_mem_tail h
            · exact List.mem_of_mem_take h
end
end N46

set_option Elab.async false
set_option linter.all false
set_option maxRecDepth 100000
set_option maxHeartbeats 4000000
namespace N46
open PySem PySem.Spec PyProof.Rows L2 RW

abbrev GOODT : Dat := .tup [.tup [.int 0, .int 0], .tup [.tup [.tup [.int 1, .int 0], .int 1], .tup [.tup [.int (-1), .int 0], .int 1]]]
abbrev THREE : Dat := .tup [.tup [.int 1, .int 0], .tup [.int 0, .int 1], .tup [.int (-1), .int (-1)]]
abbrev ORIG : Dat := .tup [.int 0, .int 0]
def GBD : List ((Int × Int) × Int) := [((1, 0), 1), ((-1, 0), 1)]
def THR : List (Int × Int) := [(1, 0), (0, 1), (-1, -1)]
def toldOk (d : Dat) : Bool := roundB d && (decide (lenD (partD d 1) ≤ 800) && (innD (partD d 0)).all shD)
def rowOk (d : Dat) : Bool := srB d 2 2
def okRay (d : Dat) : Bool := srB d 2 2 && rayB d
theorem get_app {S : List Dat} {v : Dat} : (S ++ [v])[S.length]? = some v := by simp
theorem set_app {S : List Dat} {v w : Dat} : (S ++ [v]).set S.length w = S ++ [w] := by simp
theorem take_app {S : List Dat} {v : Dat} : (S ++ [v]).take S.length = S := List.take_left ..
theorem sp_env {K : PySem.W.Frag} {n : Nat} {u : TS} {env env' : Env1} {S : List Dat} {P : Post} (e : env = env') (q : SP K n u env' S P) : SP K n u env S P := e ▸ q
theorem sp_env_S {K : PySem.W.Frag} {n : Nat} {u : TS} {env : Env1} {S S' : List Dat} {P : Post} (e : S = S') (q : SP K n u env S' P) : SP K n u env S P := e ▸ q
theorem good_ok : toldOk GOODT = true := by decide +kernel
theorem good_round : roundB GOODT = true := by decide +kernel
theorem three_ok : smoothB THREE = true := by decide +kernel
theorem round_dec {d : Dat} (h : roundB d = true) : ∃ fs bs : List Dat, d = .tup [.tup fs, .tup bs] := by
  unfold roundB at h
  split at h
  · rename_i f b
    rw [Bool.and_eq_true, Bool.and_eq_true] at h
    obtain ⟨fs, rfl⟩ : ∃ fs, f = .tup fs := tup_of (by
      cases hf : isTupD f with
      | true => rfl
      | false => rw [not_tup hf] at h; cases h.1)
    obtain ⟨bs, rfl⟩ : ∃ bs, b = .tup bs := tup_of (by
      cases hf : isTupD b with
      | true => rfl
      | false => rw [not_bends hf] at h; cases h.2.1)
    exact ⟨fs, bs, rfl⟩
  · cases h
def gNT (CO : Addr) (ss : List Sl) (S : List Dat) (o : Out) (S' : List Dat) : Prop := ∃ d : Dat, ss = [.d d] ∧ KD d ∧ smT d = true ∧ ((toldOk d = false ∧ o = .exc CO none) ∨ (d = GOODT ∧ o = .val .non)) ∧ S' = S
def gNF (CO : Addr) (ss : List Sl) (S : List Dat) (o : Out) (S' : List Dat) : Prop := ∃ d : Dat, ss = [.d d] ∧ KD d ∧ smF d = true ∧ ((smoothB d = false ∧ o = .exc CO none) ∨ (d = THREE ∧ o = .val .non)) ∧ S' = S
def fstR (d : Dat) : Dat := (innD (partD d 0)).getD 0 .non
def gNPR (CD CO : Addr) (ss : List Sl) (S : List Dat) (o : Out) (S' : List Dat) : Prop := ∃ d : Dat, ss = [.d d] ∧ KD d ∧ ((rdB d = false ∧ o = .exc CD none) ∨ (rdB d = true ∧ ¬ lenD (fstR d) = 2 ∧ o = .exc CO none)) ∧ S' = S
def gVR (CO CR : Addr) (o0 : Out) (ss : List Sl) (S : List Dat) (o : Out) (S' : List Dat) : Prop := ∃ t r : Dat, ss = [.d t, .d r] ∧ KD t ∧ KD r ∧ smT t = true ∧ ((toldOk t = false ∧ o = .exc CO none) ∨ (t = GOODT ∧ srB r 2 2 = false ∧ o = .exc CR none) ∨ (t = GOODT ∧ r = ORIG ∧ o = o0)) ∧ S' = S
def gPB (CR CO : Addr) (ss : List Sl) (S : List Dat) (o : Out) (S' : List Dat) : Prop := ∃ r t : Dat, ss = [.d r, .d t] ∧ KD r ∧ KD t ∧ ((okRay r = false ∧ o = .exc CR none) ∨ (okRay r = true ∧ okRay t = false ∧ o = .exc CR none) ∨ (∃ p q : Int × Int, r = prD p ∧ t = prD q ∧ SmP p ∧ SmP q ∧ okRay r = true ∧ okRay t = true ∧ detF p q ≤ 0 ∧ o = .exc CO none)) ∧ S' = S
def gRV (CO : Addr) (ss : List Sl) (S : List Dat) (o : Out) (S' : List Dat) : Prop := ∃ f v : Dat, ss = [.d f, .d v] ∧ KD f ∧ KD v ∧ smF f = true ∧ ((smoothB f = false ∧ o = .exc CO none) ∨ (f = THREE ∧ srB v 3 3 = false ∧ o = .exc CO none)) ∧ S' = S
theorem kd_orig : KD ORIG := by (repeat (first | exact kn | (refine kc ?_ ?_) | assumption | exact KD.non | exact KD.bl _ | exact KD.int _ | exact KD.str _ | exact KD.dd | refine KD.tup ?_ (Nat.le_of_ble_eq_true rfl) | refine KD.lst ?_ (Nat.le_of_ble_eq_true rfl)))
theorem pl_orig : Pl 1 ORIG := .tup fun d hd => by
  simp only [List.mem_cons, List.not_mem_nil, or_false] at hd
  rcases hd with rfl | rfl <;> exact .int _
section
variable {P : Program} {w : World} {K : PySem.W.Frag} {mg : Str → Option Value} {base : Heap}

theorem ok_need_told (T : Txt K mg) : FnOk P w K mg base (L2.CX P w) 6 T.a_need_told T.d_need_told ["told"] (SpR K (gNT T.a_InvalidOperation)) := by
  have G_is_round := ok_is_round (P := P) (w := w) (base := base) T
  have b_is_round := T.b_is_round
  have G_are_short := ok_are_short (P := P) (w := w) (base := base) T
  have b_are_short := T.b_are_short
  refine T.F_need_told.okX sc_need_told (spr_len (k := 1) fun ss S o S' hg => ?_) (fun cdv A outer s H vs Q E hr h => ⟨_, (pss_cons (ps_if (PW.pt (pw_or (pt_not (pt_truK K (pe_call G_is_round (hr.mono (by decide)) rfl T.m_is_round T.k_is_round b_is_round .nil pass0 (pa_cons (pv 0) pa_nil)))) (pw_or (pt_cmpR op_gt (pe_callB (call_lenK K) (by rfl) T.n_len (by decide +kernel) (pa_cons (pe_ix (ix_seqK K) (pv 0) pe_int (fun _ _ => rfl)) pa_nil)) (pe_glob (v := .int 800) rfl T.m_MOST_BENDS ⟨_, rfl⟩) (nomark _)) (pw_or1 (pt_not (pt_truK K (pe_call G_are_short (hr.mono (by decide)) rfl T.m_are_short T.k_are_short b_are_short .nil pass0 (pa_cons (pe_ix (ix_seqK K) (pv 0) pe_int (fun _ _ => rfl)) pa_nil)))))))) (pss_one (ps_raise rfl (takes_of rfl rfl rfl rfl) (pmk_own PySem.F.excBase_ValueError T.x_InvalidOperation T.m_InvalidOperation T.k_InvalidOperation (raises_own T.be_InvalidOperation T.ty_InvalidOperation) (by exact rfl)))) pss_nil) (pss_one (ps_for (passes_of rfl) rfl (pi_seqK K (pe_ix (ix_seqK K) (pv 0) pe_int (fun _ _ => rfl))) (pg_tup rfl (pgs_cons (pg_name (i := 1) sc_need_told.nd rfl (by first | exact Or.inl rfl | exact Or.inr rfl)) (pgs_cons (pg_name (i := 2) sc_need_told.nd rfl (by first | exact Or.inl rfl | exact Or.inr rfl)) pgs_nil))) (pss_one (ps_if (pt_not (pt_truK K (pe_call G_are_short (hr.mono (by decide)) rfl T.m_are_short T.k_are_short b_are_short .nil pass0 (pa_cons (pe_tup (StX.pa_star (pv 1) (pa_cons (pv 2) pa_nil))) pa_nil)))) (pss_one (ps_raise rfl (takes_of rfl rfl rfl rfl) (pmk_own PySem.F.excBase_ValueError T.x_InvalidOperation T.m_InvalidOperation T.k_InvalidOperation (raises_own T.be_InvalidOperation T.ty_InvalidOperation) (by exact rfl)))) pss_nil))))), sp_bodyR h fun ss S o S' hg => ?_⟩)
  · obtain ⟨d, rfl, _⟩ := hg; rfl
  · obtain ⟨d, rfl, hd, hs, ho, rfl⟩ := hg
    have hR : EvT K _ [some (.d d), none, none] S' (!roundB d) S' := et_not (et_bl (ev_call (G := gRound) (E := E0) (ea_cons (ev_var (i := 0) rfl) ea_nil) ⟨d, rfl, hd, hs, rfl, rfl⟩))
    cases hr : roundB d with
    | false =>
      rw [hr] at hR
      rcases ho with ⟨_, rfl⟩ | ⟨rfl, _⟩
      · exact sp_ifq (b := true) (et_orP (a := true) (b := false) hR fun h => by cases h) (fun _ => sp_raise0q (E := E) (C := T.a_InvalidOperation) (by show XOk K E _ S' = _; rw [List.take_length])) (fun h => by cases h)
      · rw [good_round] at hr; cases hr
    | true =>
      rw [hr] at hR
      obtain ⟨fs, bs, e⟩ := round_dec hr
      have et : toldOk d = (decide (bs.length ≤ 800) && fs.all shD) := by rw [e] at hr ⊢; unfold toldOk; rw [hr]; rfl
      subst e
      have kf := kd_inn hd (.tup fs) (by simp)
      have hI : EvT K _ [some (.d (.tup [.tup fs, .tup bs])), none, none] S' (false || (decide (((bs.length : Nat) : Int) > 800) || !fs.all shD)) S' := et_orP hR fun _ => et_orP (et_test (ev_op (ev_cb (ea_cons (ev_op (ev_var (i := 0) rfl) (ev_int (i := 1)) (op2_ix (d := .tup bs) .tup at1)) ea_nil) (cd_len .tup)) (ev_int (i := 800)) o_gt)) fun _ => et_not (et_bl (ev_call (G := gShorts) (E := E0) (ea_cons (ev_op (ev_var (i := 0) rfl) (ev_int (i := 0)) (op2_ix (d := .tup fs) .tup at0)) ea_nil) ⟨fs, rfl, kd_inn kf, rfl, rfl⟩))
      have eb : (false || (decide (((bs.length : Nat) : Int) > 800) || !fs.all shD)) = !toldOk (.tup [.tup fs, .tup bs]) := by
        rw [et]
        by_cases h : bs.length ≤ 800
        · rw [decide_eq_true h, decide_eq_false (by omega)]; simp
        · rw [decide_eq_false h, decide_eq_true (by omega)]; simp
      rw [eb] at hI
      rcases ho with ⟨hb, rfl⟩ | ⟨e, rfl⟩
      · rw [hb] at hI
        exact sp_ifq (b := true) hI (fun _ => sp_raise0q (E := E) (C := T.a_InvalidOperation) (by show XOk K E _ S' = _; rw [List.take_length])) (fun h => by cases h)
      · rw [e, good_ok] at hI
        rw [e]
        refine sp_ifq (b := false) hI (fun h => by cases h) fun _ => sp_nextq ?_
        refine sp_forA (xs := GBD) (g := bdD) (it_tup (ev_op (ev_var rfl) ev_int (op2_ix (d := .tup (GBD.map bdD)) .tup at1))) (fun i env' S2 => S2 = S' ∧ ∃ o1 o2, env' = [some (.d GOODT), o1, o2]) ⟨rfl, none, none, rfl⟩ (fun _ _ _ _ _ _ _ _ _ => trivial) ?_ ?_
        · rintro i z env' S2 hz ⟨rfl, o1, o2, rfl⟩
          refine ⟨[1, 2], fun env => (env.set 1 (some (.d (prD z.1)))).set 2 (some (.d (.int z.2))), tg_pair, ?_⟩
          have hm := List.mem_of_getElem? hz
          have hsh : [Dat.int z.1.1, Dat.int z.1.2, Dat.int z.2].all shD = true := (by decide +kernel : ∀ z ∈ GBD, [Dat.int z.1.1, Dat.int z.1.2, Dat.int z.2].all shD = true) z hm
          refine sp_if (b := false) (EvT.to (et_not (et_bl (ev_call (G := gShorts) (E := E0) (ea_cons (ev_tup (ds := [.int z.1.1, .int z.1.2, .int z.2]) (ea_star (ds := [.int z.1.1, .int z.1.2]) (ev_var (i := 1) rfl) (ea_cons (ev_var (i := 2) rfl) ea_nil)) (szd (Nat.le_of_ble_eq_true rfl))) ea_nil) ⟨_, rfl, by (repeat (first | exact kn | (refine kc ?_ ?_) | assumption | exact KD.non | exact KD.bl _ | exact KD.int _ | exact KD.str _ | exact KD.dd | refine KD.tup ?_ (Nat.le_of_ble_eq_true rfl) | refine KD.lst ?_ (Nat.le_of_ble_eq_true rfl))), rfl, rfl⟩))) (by rw [hsh]; rfl)) (fun h => by cases h) fun _ => sp_next ⟨rfl, _, _, rfl⟩
        · rintro env' S2 ⟨rfl, o1, o2, rfl⟩
          exact ⟨rfl, List.take_length⟩
theorem ok_need_ray (T : Txt K mg) : FnOk P w K mg base (L2.CX P w) 4 T.a_need_ray T.d_need_ray ["ray"] (SpR K (gNd okRay T.a_InvalidRow)) := by
  have G_is_short_row := ok_is_short_row (P := P) (w := w) (base := base) T
  have b_is_short_row := T.b_is_short_row
  have G_is_ray := ok_is_ray (P := P) (w := w) (base := base) T
  have b_is_ray := T.b_is_ray
  refine T.F_need_ray.okX sc_need_ray (spr_len (k := 1) fun ss S o S' hg => ?_) (fun cdv A outer s H vs Q E hr h => ⟨_, (pss_one (ps_if (PW.pt (pw_or (pt_not (pt_truK K (pe_call G_is_short_row (hr.mono (by decide)) rfl T.m_is_short_row T.k_is_short_row b_is_short_row .nil pass0 (pa_cons (pv 0) (pa_cons pe_int (pa_cons pe_int pa_nil)))))) (pw_or1 (pt_not (pt_truK K (pe_call G_is_ray (hr.mono (by decide)) rfl T.m_is_ray T.k_is_ray b_is_ray .nil pass0 (pa_cons (pv 0) pa_nil))))))) (pss_one (ps_raise rfl (takes_of rfl rfl rfl rfl) (pmk_own PySem.F.excBase_ValueError T.x_InvalidRow T.m_InvalidRow T.k_InvalidRow (raises_own T.be_InvalidRow T.ty_InvalidRow) (by exact rfl)))) pss_nil)), sp_bodyR h fun ss S o S' hg => ?_⟩)
  · obtain ⟨v, rfl, _⟩ := hg; rfl
  · obtain ⟨v, rfl, hv, rfl, rfl⟩ := hg
    have h1 : EvT K _ [some (.d v)] S' (!srB v 2 2) S' := et_not (et_bl (ev_call (G := gSRow) (E := E0) (ea_cons (ev_var (i := 0) rfl) (ea_cons (ev_int (i := 2)) (ea_cons (ev_int (i := 2)) ea_nil))) ⟨v, 2, 2, rfl, hv, rfl, rfl⟩))
    have h2 : EvT K _ [some (.d v)] S' (!rayB v) S' := et_not (et_bl (ev_call (G := gRay) (E := E0) (ea_cons (ev_var (i := 0) rfl) ea_nil) ⟨v, rfl, hv, rfl, rfl⟩))
    have hE := et_orP h1 fun _ => h2
    have eb : (!srB v 2 2 || !rayB v) = !okRay v := by unfold okRay; rw [Bool.not_and]
    rw [eb] at hE
    cases hb : okRay v with
    | true =>
      rw [hb] at hE
      exact sp_if (b := false) hE (fun h => by cases h) fun _ => sp_next ⟨rfl, List.take_length⟩
    | false =>
      rw [hb] at hE
      exact sp_if (b := true) hE (fun _ => sp_raise0 (E := E) (C := T.a_InvalidRow) (by show XOk K E _ S' = _; rw [List.take_length]; rfl)) (fun h => by cases h)
theorem ok_need_plane_row (T : Txt K mg) : FnOk P w K mg base (L2.CX P w) 3 T.a_need_plane_row T.d_need_plane_row ["row"] (SpR K (gNd rowOk T.a_InvalidRow)) := by
  have G_is_short_row := ok_is_short_row (P := P) (w := w) (base := base) T
  have b_is_short_row := T.b_is_short_row
  refine T.F_need_plane_row.okX sc_need_plane_row (spr_len (k := 1) fun ss S o S' hg => ?_) (fun cdv A outer s H vs Q E hr h => ⟨_, (pss_one (ps_if (pt_not (pt_truK K (pe_call G_is_short_row (hr.mono (by decide)) rfl T.m_is_short_row T.k_is_short_row b_is_short_row .nil pass0 (pa_cons (pv 0) (pa_cons pe_int (pa_cons pe_int pa_nil)))))) (pss_one (ps_raise rfl (takes_of rfl rfl rfl rfl) (pmk_own PySem.F.excBase_ValueError T.x_InvalidRow T.m_InvalidRow T.k_InvalidRow (raises_own T.be_InvalidRow T.ty_InvalidRow) (by exact rfl)))) pss_nil)), sp_bodyR h fun ss S o S' hg => ?_⟩)
  · obtain ⟨v, rfl, _⟩ := hg; rfl
  · obtain ⟨v, rfl, hv, rfl, rfl⟩ := hg
    have hE : EvT K _ [some (.d v)] S' (!rowOk v) S' := et_not (et_bl (ev_call (G := gSRow) (E := E0) (ea_cons (ev_var (i := 0) rfl) (ea_cons (ev_int (i := 2)) (ea_cons (ev_int (i := 2)) ea_nil))) ⟨v, 2, 2, rfl, hv, rfl, rfl⟩))
    cases hb : rowOk v with
    | true =>
      rw [hb] at hE
      exact sp_if (b := false) hE (fun h => by cases h) fun _ => sp_next ⟨rfl, List.take_length⟩
    | false =>
      rw [hb] at hE
      exact sp_if (b := true) hE (fun _ => sp_raise0 (E := E) (C := T.a_InvalidRow) (by show XOk K E _ S' = _; rw [List.take_length]; rfl)) (fun h => by cases h)
theorem ok_need_fan (T : Txt K mg) : FnOk P w K mg base (L2.CX P w) 5 T.a_need_fan T.d_need_fan ["fan"] (SpR K (gNF T.a_InvalidOperation)) := by
  have G_is_smooth := ok_is_smooth (P := P) (w := w) (base := base) T
  have b_is_smooth := T.b_is_smooth
  have G_are_short := ok_are_short (P := P) (w := w) (base := base) T
  have b_are_short := T.b_are_short
  refine T.F_need_fan.okX sc_need_fan (spr_len (k := 1) fun ss S o S' hg => ?_) (fun cdv A outer s H vs Q E hr h => ⟨_, (pss_one (ps_if (PW.pt (pw_or (pt_not (pt_truK K (pe_call G_is_smooth (hr.mono (by decide)) rfl T.m_is_smooth T.k_is_smooth b_is_smooth .nil pass0 (pa_cons (pv 0) pa_nil)))) (pw_or (pt_cmpR op_gt (pe_callB (call_lenK K) (by rfl) T.n_len (by decide +kernel) (pa_cons (pv 0) pa_nil)) (pe_glob (v := .int 64) rfl T.m_MOST_RAYS ⟨_, rfl⟩) (nomark _)) (pw_or1 (pt_not (pt_truK K (pe_callB (cr_allK K) (by rfl) T.n_all (by decide +kernel) (pa_cons (pe_lc (own := [("ray", 1)]) rfl sc_need_fan.nd (pi_seqK K (pv 0)) (blkOk_by (own := [("ray", 1)]) (N := ["fan", "ray"]) (sc := (defScope s_need_fan)) (by decide +kernel)) (fun _ _ _ _ _ => (pg_name (i := 1) sc_need_fan.nd rfl (by first | exact Or.inl rfl | exact Or.inr rfl))) (fun _ _ _ _ _ => pts_nil) (fun _ _ _ _ _ => (pe_call G_are_short (hr.mono (by decide)) rfl T.m_are_short T.k_are_short b_are_short .nil pass0 (pa_cons (pv 1) pa_nil)))) pa_nil)))))))) (pss_one (ps_raise rfl (takes_of rfl rfl rfl rfl) (pmk_own PySem.F.excBase_ValueError T.x_InvalidOperation T.m_InvalidOperation T.k_InvalidOperation (raises_own T.be_InvalidOperation T.ty_InvalidOperation) (by exact rfl)))) pss_nil)), sp_bodyR h fun ss S o S' hg => ?_⟩)
  · obtain ⟨d, rfl, _⟩ := hg; rfl
  · obtain ⟨d, rfl, hd, hs, ho, rfl⟩ := hg
    have hR : EvT K _ [some (.d d), none] S' (!smoothB d) S' := et_not (et_bl (ev_call (G := gSmooth) (E := E0) (ea_cons (ev_var (i := 0) rfl) ea_nil) ⟨d, rfl, hd, hs, rfl, rfl⟩))
    rcases ho with ⟨hb, rfl⟩ | ⟨rfl, rfl⟩
    · rw [hb] at hR
      exact sp_if (b := true) (et_orP (a := true) (b := false) hR fun h => by cases h) (fun _ => sp_raise0 (E := E) (C := T.a_InvalidOperation) (by show XOk K E _ S' = _; rw [List.take_length])) (fun h => by cases h)
    · rw [three_ok] at hR
      refine sp_if (b := false) (et_orP (a := false) (b := false) hR fun _ => et_orP (a := false) (b := false) (et_test (Ev.to (ev_op (ev_cb (ea_cons (ev_var rfl) ea_nil) (cd_len .tup)) ev_int o_gt) rfl)) fun _ => et_not (a := true) (et_bl (Ev.to (ev_cb (ea_cons (EvN.ev (en_mapA (xs := THR) (g := prD) (is := [1]) (fun x => Dat.bl true) (it_tup (ev_var rfl)) (size_1000 (by decide)) (fun _ _ => trivial) (by decide) (fun p env => env.set 1 (some (.d (prD p)))) fun p hp => ⟨tg_name, Ev.to (ev_call (G := gShorts) (ea_cons (ev_var rfl) ea_nil) ⟨[.int p.1, .int p.2], rfl, by (repeat (first | exact kn | (refine kc ?_ ?_) | assumption | exact KD.non | exact KD.bl _ | exact KD.int _ | exact KD.str _ | exact KD.dd | refine KD.tup ?_ (Nat.le_of_ble_eq_true rfl) | refine KD.lst ?_ (Nat.le_of_ble_eq_true rfl))), rfl, rfl⟩) ?_⟩)) ea_nil) (cd_all (bs := THR.map fun _ => true) (by rw [List.map_map]; exact .lst))) rfl))) (fun h => by cases h) fun _ => sp_next ⟨rfl, List.take_length⟩
      have : [Dat.int p.1, Dat.int p.2].all shD = true := (by decide +kernel : ∀ p ∈ THR, [Dat.int p.1, Dat.int p.2].all shD = true) p hp
      rw [this]
theorem ok_need_plane_reading (T : Txt K mg) : FnOk P w K mg base (L2.CX P w) 5 T.a_need_plane_reading T.d_need_plane_reading ["reading"] (SpR K (gNPR T.a_InvalidReading T.a_InvalidOperation)) := by
  have G_need_reading := ok_need_reading (P := P) (w := w) (base := base) T
  have b_need_reading := T.b_need_reading
  refine T.F_need_plane_reading.okX sc_need_plane_reading (spr_len (k := 1) fun ss S o S' hg => ?_) (fun cdv A outer s H vs Q E hr h => ⟨_, (pss_cons (ps_expr (pe_call G_need_reading (hr.mono (by decide)) rfl T.m_need_reading T.k_need_reading b_need_reading .nil (passR (takes_of rfl rfl rfl rfl)) (pa_cons (pv 0) pa_nil))) (pss_one (ps_if (pt_cmpR op_ne (pe_callB (call_lenK K) (by rfl) T.n_len (by decide +kernel) (pa_cons (pe_ix (ix_seqK K) (pe_ix (ix_seqK K) (pv 0) pe_int (fun _ _ => rfl)) pe_int (fun _ _ => rfl)) pa_nil)) pe_int (nomark _)) (pss_one (ps_raise rfl (takes_of rfl rfl rfl rfl) (pmk_own PySem.F.excBase_ValueError T.x_InvalidOperation T.m_InvalidOperation T.k_InvalidOperation (raises_own T.be_InvalidOperation T.ty_InvalidOperation) (by exact rfl)))) pss_nil))), sp_bodyR h fun ss S o S' hg => ?_⟩)
  · obtain ⟨d, rfl, _⟩ := hg; rfl
  · obtain ⟨d, rfl, hd, ho, rfl⟩ := hg
    rcases ho with ⟨hb, rfl⟩ | ⟨hb, hl, rfl⟩
    · exact sp_dropXq (S1 := S') (ev_callX (C := T.a_InvalidReading) (p := none) (ea_cons (ev_var rfl) ea_nil) ⟨d, rfl, hd, by rw [hb]; rfl, rfl⟩) (by show XOk K E _ S' = _; rw [List.take_length])
    · refine sp_drop (S1 := S') (x := .d .non) (ev_callR (ea_cons (ev_var rfl) ea_nil) ⟨d, rfl, hd, by rw [hb]; rfl, rfl⟩) ?_
      have hf : ∃ x xs b, d = .tup [.tup (x :: xs), b] ∧ isTupD x = true := by
        unfold rdB at hb
        split at hb
        · rename_i a b
          rw [Bool.and_eq_true, Bool.and_eq_true] at hb
          have h := hb.1.1
          unfold lotB at h
          rw [Bool.and_eq_true] at h
          obtain ⟨n, rows, rfl, hne, _⟩ := asr_rows h.1
          cases rows with
          | nil => exact absurd rfl hne
          | cons r rs => exact ⟨_, _, _, rfl, rfl⟩
        · cases hb
      obtain ⟨x, xs, b, rfl, hx⟩ := hf
      have hl : ¬ lenD x = 2 := hl
      refine sp_if (b := true) (EvT.to (et_test (ev_op (ev_cb (ea_cons (ev_op (ev_op (ev_var rfl) ev_int (op2_ix (d := .tup (x :: xs)) .tup at0)) ev_int (op2_ix (d := x) .tup at0)) ea_nil) (cd_lenX hx)) ev_int op2_ne_int)) ?_) (fun _ => sp_raise0 (E := E) (C := T.a_InvalidOperation) (by show XOk K E _ S' = _; rw [List.take_length])) (fun h => by cases h)
      rw [decide_eq_false (by omega)]; rfl
theorem ok_round_of (T : Txt K mg) : FnOk P w K mg base (L2.CX P w) 6 T.a_round_of T.d_round_of ["reading"] (SpR K (gNPR T.a_InvalidReading T.a_InvalidOperation)) := by
  have G_need_plane_reading := ok_need_plane_reading (P := P) (w := w) (base := base) T
  have b_need_plane_reading := T.b_need_plane_reading
  refine T.F_round_of.okX sc_round_of (spr_len (k := 1) fun ss S o S' hg => ?_) (fun cdv A outer s H vs Q E hr h => ⟨_, (pss_cons (ps_expr (pe_call G_need_plane_reading (hr.mono (by decide)) rfl T.m_need_plane_reading T.k_need_plane_reading b_need_plane_reading .nil (passR (takes_of rfl rfl rfl rfl)) (pa_cons (pv 0) pa_nil))) (pss_one ps_never)), sp_bodyR h fun ss S o S' hg => ?_⟩)
  · obtain ⟨d, rfl, _⟩ := hg; rfl
  · obtain ⟨d, rfl, hd, ho, rfl⟩ := hg
    have hc : gNPR T.a_InvalidReading T.a_InvalidOperation [.d d] S' o S' := ⟨d, rfl, hd, ho, rfl⟩
    rcases ho with ⟨_, rfl⟩ | ⟨_, _, rfl⟩ <;> exact sp_dropXq (S1 := S') (ev_callX (ea_cons (ev_var rfl) ea_nil) hc) (by show XOk K E _ S' = _; rw [List.take_length])
theorem ok_value_of_round (T : Txt K mg) : FnOk P w K mg base (L2.CX P w) 7 T.a_value_of_round T.d_value_of_round ["told", "row"] (SpR K (gVR T.a_InvalidOperation T.a_InvalidRow (.val (.int 0)))) := by
  have G_need_told := ok_need_told (P := P) (w := w) (base := base) T
  have b_need_told := T.b_need_told
  have G_need_plane_row := ok_need_plane_row (P := P) (w := w) (base := base) T
  have b_need_plane_row := T.b_need_plane_row
  refine T.F_value_of_round.okX sc_value_of_round (spr_len (k := 2) fun ss S o S' hg => ?_) (fun cdv A outer s H vs Q E hr h => ⟨_, (pss_cons (ps_expr (pe_call G_need_told (hr.mono (by decide)) rfl T.m_need_told T.k_need_told b_need_told .nil (passR (takes_of rfl rfl rfl rfl)) (pa_cons (pv 0) pa_nil))) (pss_cons (ps_expr (pe_call G_need_plane_row (hr.mono (by decide)) rfl T.m_need_plane_row T.k_need_plane_row b_need_plane_row .nil (passR (takes_of rfl rfl rfl rfl)) (pa_cons (pv 1) pa_nil))) (pss_cons (ps_if (pt_cmpR (op_eqDK K hr.units) (pv 1) (pe_tup (pa_cons pe_int (pa_cons pe_int pa_nil))) (nomark _)) (pss_one (ps_ret pe_int)) pss_nil) (pss_one ps_never)))), sp_bodyR h fun ss S o S' hg => ?_⟩)
  · obtain ⟨t, r, rfl, _⟩ := hg; rfl
  · obtain ⟨t, r, rfl, ht, hr, hs, ho, rfl⟩ := hg
    rcases ho with ⟨hb, rfl⟩ | ⟨rfl, hb, rfl⟩ | ⟨rfl, rfl, rfl⟩
    · exact sp_dropXq (S1 := S') (ev_callX (C := T.a_InvalidOperation) (p := none) (ea_cons (ev_var rfl) ea_nil) ⟨t, rfl, ht, hs, .inl ⟨hb, rfl⟩, rfl⟩) (by show XOk K E _ S' = _; rw [List.take_length])
    · refine sp_drop (S1 := S') (x := .d .non) (ev_callR (ea_cons (ev_var rfl) ea_nil) ⟨_, rfl, ht, hs, .inr ⟨rfl, rfl⟩, rfl⟩) ?_
      exact sp_dropXq (S1 := S') (ev_callX (C := T.a_InvalidRow) (p := none) (ea_cons (ev_var rfl) ea_nil) ⟨r, rfl, hr, by rw [show rowOk r = false from hb]; rfl, rfl⟩) (by show XOk K E _ S' = _; rw [List.take_length])
    · refine sp_drop (S1 := S') (x := .d .non) (ev_callR (ea_cons (ev_var rfl) ea_nil) ⟨_, rfl, ht, hs, .inr ⟨rfl, rfl⟩, rfl⟩) ?_
      refine sp_drop (S1 := S') (x := .d .non) (ev_callR (ea_cons (ev_var rfl) ea_nil) ⟨ORIG, rfl, hr, rfl, rfl⟩) ?_
      refine sp_ifq (b := true) (S1 := S') (EvT.to (et_test (ev_op (ev_var rfl) (ev_tup (ds := [.int 0, .int 0]) (ea_cons ev_int (ea_cons ev_int ea_nil)) (size_1000 (by decide))) (op2_eqD (plS_d pl_orig) (plS_d pl_orig) (by decide) (by decide)))) (eqD_refl pl_orig)) (fun _ => sp_retq (sp_ret ev_int ⟨rfl, List.take_length⟩)) (fun h => by cases h)
theorem ok_form_behind (T : Txt K mg) : FnOk P w K mg base (L2.CX P w) 7 T.a_form_behind T.d_form_behind ["told", "row"] (SpR K (gVR T.a_InvalidOperation T.a_InvalidRow (.exc T.a_InvalidOperation none))) := by
  have G_need_told := ok_need_told (P := P) (w := w) (base := base) T
  have b_need_told := T.b_need_told
  have G_need_plane_row := ok_need_plane_row (P := P) (w := w) (base := base) T
  have b_need_plane_row := T.b_need_plane_row
  refine T.F_form_behind.okX sc_form_behind (spr_len (k := 2) fun ss S o S' hg => ?_) (fun cdv A outer s H vs Q E hr h => ⟨_, (pss_cons (ps_expr (pe_call G_need_told (hr.mono (by decide)) rfl T.m_need_told T.k_need_told b_need_told .nil (passR (takes_of rfl rfl rfl rfl)) (pa_cons (pv 0) pa_nil))) (pss_cons (ps_expr (pe_call G_need_plane_row (hr.mono (by decide)) rfl T.m_need_plane_row T.k_need_plane_row b_need_plane_row .nil (passR (takes_of rfl rfl rfl rfl)) (pa_cons (pv 1) pa_nil))) (pss_cons (ps_if (pt_cmpR (op_eqDK K hr.units) (pv 1) (pe_tup (pa_cons pe_int (pa_cons pe_int pa_nil))) (nomark _)) (pss_one (ps_raise rfl (takes_of rfl rfl rfl rfl) (pmk_own PySem.F.excBase_ValueError T.x_InvalidOperation T.m_InvalidOperation T.k_InvalidOperation (raises_own T.be_InvalidOperation T.ty_InvalidOperation) (by exact rfl)))) pss_nil) (pss_one ps_never)))), sp_bodyR h fun ss S o S' hg => ?_⟩)
  · obtain ⟨t, r, rfl, _⟩ := hg; rfl
  · obtain ⟨t, r, rfl, ht, hr, hs, ho, rfl⟩ := hg
    rcases ho with ⟨hb, rfl⟩ | ⟨rfl, hb, rfl⟩ | ⟨rfl, rfl, rfl⟩
    · exact sp_dropXq (S1 := S') (ev_callX (C := T.a_InvalidOperation) (p := none) (ea_cons (ev_var rfl) ea_nil) ⟨t, rfl, ht, hs, .inl ⟨hb, rfl⟩, rfl⟩) (by show XOk K E _ S' = _; rw [List.take_length])
    · refine sp_drop (S1 := S') (x := .d .non) (ev_callR (ea_cons (ev_var rfl) ea_nil) ⟨_, rfl, ht, hs, .inr ⟨rfl, rfl⟩, rfl⟩) ?_
      exact sp_dropXq (S1 := S') (ev_callX (C := T.a_InvalidRow) (p := none) (ea_cons (ev_var rfl) ea_nil) ⟨r, rfl, hr, by rw [show rowOk r = false from hb]; rfl, rfl⟩) (by show XOk K E _ S' = _; rw [List.take_length])
    · refine sp_drop (S1 := S') (x := .d .non) (ev_callR (ea_cons (ev_var rfl) ea_nil) ⟨_, rfl, ht, hs, .inr ⟨rfl, rfl⟩, rfl⟩) ?_
      refine sp_drop (S1 := S') (x := .d .non) (ev_callR (ea_cons (ev_var rfl) ea_nil) ⟨ORIG, rfl, hr, rfl, rfl⟩) ?_
      refine sp_ifq (b := true) (S1 := S') (EvT.to (et_test (ev_op (ev_var rfl) (ev_tup (ds := [.int 0, .int 0]) (ea_cons ev_int (ea_cons ev_int ea_nil)) (size_1000 (by decide))) (op2_eqD (plS_d pl_orig) (plS_d pl_orig) (by decide) (by decide)))) (eqD_refl pl_orig)) (fun _ => sp_raise0q (E := E) (C := T.a_InvalidOperation) (by show XOk K E _ S' = _; rw [List.take_length])) (fun h => by cases h)
theorem ok_put_between (T : Txt K mg) : FnOk P w K mg base (L2.CX P w) 5 T.a_put_between T.d_put_between ["ray", "other"] (SpR K (gPB T.a_InvalidRow T.a_InvalidOperation)) := by
  have G_need_ray := ok_need_ray (P := P) (w := w) (base := base) T
  have b_need_ray := T.b_need_ray
  have G_det := ok_det (P := P) (w := w) (base := base) T
  have b_det := T.b_det
  refine T.F_put_between.okX sc_put_between (spr_len (k := 2) fun ss S o S' hg => ?_) (fun cdv A outer s H vs Q E hr h => ⟨_, (pss_cons (ps_expr (pe_call G_need_ray (hr.mono (by decide)) rfl T.m_need_ray T.k_need_ray b_need_ray .nil (passR (takes_of rfl rfl rfl rfl)) (pa_cons (pv 0) pa_nil))) (pss_cons (ps_expr (pe_call G_need_ray (hr.mono (by decide)) rfl T.m_need_ray T.k_need_ray b_need_ray .nil (passR (takes_of rfl rfl rfl rfl)) (pa_cons (pv 1) pa_nil))) (pss_cons (ps_if (pt_cmpR op_le (pe_call G_det (hr.mono (by decide)) rfl T.m_det T.k_det b_det .nil pass0 (pa_cons (pv 0) (pa_cons (pv 1) pa_nil))) pe_int (nomark _)) (pss_one (ps_raise rfl (takes_of rfl rfl rfl rfl) (pmk_own PySem.F.excBase_ValueError T.x_InvalidOperation T.m_InvalidOperation T.k_InvalidOperation (raises_own T.be_InvalidOperation T.ty_InvalidOperation) (by exact rfl)))) pss_nil) (pss_cons ps_never (pss_cons ps_never (pss_one ps_never)))))), sp_bodyR h fun ss S o S' hg => ?_⟩)
  · obtain ⟨r, t, rfl, _⟩ := hg; rfl
  · obtain ⟨r, t, rfl, hr, ht, ho, rfl⟩ := hg
    rcases ho with ⟨hb, rfl⟩ | ⟨h1, hb, rfl⟩ | ⟨p, q, rfl, rfl, sp, sq, h1, h2, hl, rfl⟩
    · exact sp_dropXq (S1 := S') (ev_callX (C := T.a_InvalidRow) (p := none) (ea_cons (ev_var rfl) ea_nil) ⟨r, rfl, hr, by rw [hb]; rfl, rfl⟩) (by show XOk K E _ S' = _; rw [List.take_length])
    · refine sp_drop (S1 := S') (x := .d .non) (ev_callR (ea_cons (ev_var rfl) ea_nil) ⟨r, rfl, hr, by rw [h1]; rfl, rfl⟩) ?_
      exact sp_dropXq (S1 := S') (ev_callX (C := T.a_InvalidRow) (p := none) (ea_cons (ev_var rfl) ea_nil) ⟨t, rfl, ht, by rw [hb]; rfl, rfl⟩) (by show XOk K E _ S' = _; rw [List.take_length])
    · refine sp_drop (S1 := S') (x := .d .non) (ev_callR (ea_cons (ev_var rfl) ea_nil) ⟨_, rfl, hr, by rw [h1]; rfl, rfl⟩) ?_
      refine sp_drop (S1 := S') (x := .d .non) (ev_callR (ea_cons (ev_var rfl) ea_nil) ⟨_, rfl, ht, by rw [h2]; rfl, rfl⟩) ?_
      refine sp_ifq (b := true) (S1 := S') (EvT.to (et_test (ev_op (ev_call (ea_cons (ev_var rfl) (ea_cons (ev_var rfl) ea_nil)) ⟨p, q, rfl, sp, sq, rfl, rfl⟩) ev_int o_le)) (decide_eq_true hl)) (fun _ => sp_raise0q (E := E) (C := T.a_InvalidOperation) (by show XOk K E _ S' = _; rw [List.take_length])) (fun h => by cases h)
theorem ok_round_by_values (T : Txt K mg) : FnOk P w K mg base (L2.CX P w) 6 T.a_round_by_values T.d_round_by_values ["fan", "values"] (SpR K (gRV T.a_InvalidOperation)) := by
  have G_need_fan := ok_need_fan (P := P) (w := w) (base := base) T
  have b_need_fan := T.b_need_fan
  have G_is_short_row := ok_is_short_row (P := P) (w := w) (base := base) T
  have b_is_short_row := T.b_is_short_row
  refine T.F_round_by_values.okX sc_round_by_values (spr_len (k := 2) fun ss S o S' hg => ?_) (fun cdv A outer s H vs Q E hr h => ⟨_, (pss_cons (ps_expr (pe_call G_need_fan (hr.mono (by decide)) rfl T.m_need_fan T.k_need_fan b_need_fan .nil (passR (takes_of rfl rfl rfl rfl)) (pa_cons (pv 0) pa_nil))) (pss_cons (ps_if (pt_not (pt_truK K (pe_call G_is_short_row (hr.mono (by decide)) rfl T.m_is_short_row T.k_is_short_row b_is_short_row .nil pass0 (pa_cons (pv 1) (pa_cons (pe_callB (call_lenK K) (by rfl) T.n_len (by decide +kernel) (pa_cons (pv 0) pa_nil)) (pa_cons (pe_callB (call_lenK K) (by rfl) T.n_len (by decide +kernel) (pa_cons (pv 0) pa_nil)) pa_nil)))))) (pss_one (ps_raise rfl (takes_of rfl rfl rfl rfl) (pmk_own PySem.F.excBase_ValueError T.x_InvalidOperation T.m_InvalidOperation T.k_InvalidOperation (raises_own T.be_InvalidOperation T.ty_InvalidOperation) (by exact rfl)))) pss_nil) (pss_cons ps_never (pss_cons ps_never (pss_cons ps_never (pss_cons ps_never (pss_one ps_never))))))), sp_bodyR h fun ss S o S' hg => ?_⟩)
  · obtain ⟨f, v, rfl, _⟩ := hg; rfl
  · obtain ⟨f, v, rfl, hf, hv, hs, ho, rfl⟩ := hg
    rcases ho with ⟨hb, rfl⟩ | ⟨rfl, hb, rfl⟩
    · exact sp_dropXq (S1 := S') (ev_callX (C := T.a_InvalidOperation) (p := none) (ea_cons (ev_var rfl) ea_nil) ⟨f, rfl, hf, hs, .inl ⟨hb, rfl⟩, rfl⟩) (by show XOk K E _ S' = _; rw [List.take_length])
    · refine sp_drop (S1 := S') (x := .d .non) (ev_callR (ea_cons (ev_var rfl) ea_nil) ⟨_, rfl, hf, hs, .inr ⟨rfl, rfl⟩, rfl⟩) ?_
      refine sp_ifq (b := true) (S1 := S') (EvT.to (et_not (et_bl (ev_call (G := gSRow) (E := E0) (ea_cons (ev_var rfl) (ea_cons (ev_cb (ea_cons (ev_var rfl) ea_nil) (cd_len .tup)) (ea_cons (ev_cb (ea_cons (ev_var rfl) ea_nil) (cd_len .tup)) ea_nil))) ⟨v, 3, 3, rfl, hv, rfl, rfl⟩))) (by rw [hb]; rfl)) (fun _ => sp_raise0q (E := E) (C := T.a_InvalidOperation) (by show XOk K E _ S' = _; rw [List.take_length])) (fun h => by cases h)
end
end N46

set_option Elab.async false
set_option linter.all false
set_option maxRecDepth 100000
set_option maxHeartbeats 4000000
namespace N46
open PySem PySem.Spec PyProof.Rows L2 RW

def gProd (ss : List Sl) (S : List Dat) (r : Dat) (S' : List Dat) : Prop := ∃ (p q : Int × Int), ss = [.d (prD p), .d (prD q)] ∧ SmP p ∧ SmP q ∧ r = .int (p.1 * q.1 + p.2 * q.2) ∧ S' = S
def FRM : List (Int × Int) := [(0, 0), (0, 0), (0, -1)]
def gFB (ss : List Sl) (S : List Dat) (r : Dat) (S' : List Dat) : Prop := ss = [.d GOODT, .d THREE] ∧ r = .lst (FRM.map prD) ∧ S' = S
def gVO (CO : Addr) (ss : List Sl) (S : List Dat) (o : Out) (S' : List Dat) : Prop := ∃ t f : Dat, ss = [.d t, .d f] ∧ KD t ∧ KD f ∧ smT t = true ∧ smF f = true ∧ ((toldOk t = false ∧ o = .exc CO none) ∨ (t = GOODT ∧ smoothB f = false ∧ o = .exc CO none) ∨ (t = GOODT ∧ f = THREE ∧ o = .val (.tup [.int 0, .int 0, .int 1]))) ∧ S' = S
theorem sm_small {i : Int} (h : i.natAbs ≤ 1) : SmI i := by
  unfold SmI
  have : i.natAbs = 0 ∨ i.natAbs = 1 := by omega
  rcases this with e | e <;> rw [e] <;> decide
abbrev EASTD : Dat := .tup [.int 1, .int 0]
theorem pl_east : Pl 1 EASTD := .tup fun d hd => by
  simp only [List.mem_cons, List.not_mem_nil, or_false] at hd
  rcases hd with rfl | rfl <;> exact .int _
abbrev BNDS : Dat := .tup (GBD.map bdD)
section
variable {P : Program} {w : World} {K : PySem.W.Frag} {mg : Str → Option Value} {base : Heap}

theorem ok_product_of (T : Txt K mg) : FnOk P w K mg base CX0 1 T.a_product_of T.d_product_of ["one", "other"] (SpD K (gProd)) := by
  refine T.F_product_of.ok sc_product_of (spd_len (k := 2) fun ss S r S' hg => ?_) (fun cdv A outer s H vs Q E hr h => ⟨_, (pss_one (ps_ret (pe_callB (cr_sumK K) (by rfl) T.n_sum (by decide +kernel) (pa_cons (pe_lc (own := [("x", 2), ("y", 3)]) (g := gTup K 2 (gCons (gName 2) (gCons (gName 3) gNil))) rfl sc_product_of.nd (pi_zipGK K (by rfl) T.n_zip (pa_cons (pv 0) (pa_cons (pv 1) pa_nil))) (blkOk_by (own := [("x", 2), ("y", 3)]) (N := ["one", "other", "x", "y"]) (sc := (defScope s_product_of)) (by decide +kernel)) (fun _ _ _ _ _ => (pg_tup rfl (pgs_cons (pg_name (i := 2) sc_product_of.nd rfl (by first | exact Or.inl rfl | exact Or.inr rfl)) (pgs_cons (pg_name (i := 3) sc_product_of.nd rfl (by first | exact Or.inl rfl | exact Or.inr rfl)) pgs_nil)))) (fun _ _ _ _ _ => pts_nil) (fun _ _ _ _ _ => (pe_op op_mulW (pv 2) (pv 3)))) pa_nil)))), sp_body h fun ss S r S' hg => ?_⟩)
  · obtain ⟨p, q, rfl, _⟩ := hg; rfl
  · obtain ⟨p, q, rfl, hp, hq, rfl, rfl⟩ := hg
    refine sp_ret (d := .int (p.1 * q.1 + p.2 * q.2)) (Ev.to (ev_cb (ea_cons (EvN.ev (en_mapA (xs := [p.1, p.2].zip [q.1, q.2]) (g := fun z => Dat.tup [.int z.1, .int z.2]) (is := [2, 3]) (fun z => Dat.int (z.1 * z.2)) (it_zipA (x := prD p) (y := prD q) (u := [p.1, p.2]) (v := [q.1, q.2]) (ea_cons (ev_var rfl) (ea_cons (ev_var rfl) ea_nil)) .tup .tup) (size_1000 (by simp)) (fun _ _ => trivial) (by decide) (fun z env => (env.set 2 (some (.d (.int z.1)))).set 3 (some (.d (.int z.2)))) fun z hz => ⟨tg_pair, ev_op (ev_var rfl) (ev_var rfl) (o_mulW ?_)⟩)) ea_nil) (cd_sum (ns := [p.1 * q.1, p.2 * q.2]) .lst)) ?_) ⟨rfl, List.take_length⟩
    · simp only [List.zip_cons_cons, List.zip_nil_right, List.mem_cons, List.not_mem_nil, or_false] at hz
      rcases hz with rfl | rfl
      · exact cm_of hp.1 hq.1
      · exact cm_of hp.2 hq.2
    · simp
theorem ok_forms_behind (T : Txt K mg) : FnOk P w K mg base CX0 3 T.a_forms_behind T.d_forms_behind ["told", "rows"] (SpD K (gFB)) := by
  have G_is_ahead := ok_is_ahead (P := P) (w := w) (base := base) T
  have b_is_ahead := T.b_is_ahead
  refine T.F_forms_behind.ok sc_forms_behind (spd_len (k := 2) fun ss S r S' hg => ?_) (fun cdv A outer s H vs Q E hr h => ⟨_, (pss_cons (ps_asg (pv 0) (pg_tup rfl (pgs_cons (pg_name (i := 2) sc_forms_behind.nd rfl (by first | exact Or.inl rfl | exact Or.inr rfl)) (pgs_cons (pg_name (i := 3) sc_forms_behind.nd rfl (by first | exact Or.inl rfl | exact Or.inr rfl)) pgs_nil)))) (pss_cons (ps_par (i := 4) (j := 5) rfl sc_forms_behind.nd rfl rfl (by decide) rfl rfl (pa_cons pe_int (pa_cons (pe_lst pa_nil) pa_nil)) (by rfl)) (pss_cons (ps_asg (pv 2) (pg_tup rfl (pgs_cons (pg_name (i := 6) sc_forms_behind.nd rfl (by first | exact Or.inl rfl | exact Or.inr rfl)) (pgs_cons (pg_name (i := 7) sc_forms_behind.nd rfl (by first | exact Or.inl rfl | exact Or.inr rfl)) pgs_nil)))) (pss_cons (ps_if (PW.pt (pw_and (pt_truK K (pv 3)) (pw_and1 (pt_cmpR (op_eqDK K hr.units) (pe_ix (ix_seqK K) (pe_ix (ix_seqK K) (pv 3) pe_int (fun _ _ => rfl)) pe_int (fun _ _ => rfl)) (pe_glob (v := .ref T.a_EAST) rfl T.m_EAST rfl) (nomark _))))) (pss_one (ps_set (i := 4) sc_forms_behind.nd rfl (by first | exact Or.inl rfl | exact Or.inr rfl) pe_int)) pss_nil) (pss_cons (ps_for PassesOwn.never rfl (pi_seqK K (pv 1)) (pg_name (i := 8) sc_forms_behind.nd rfl (by first | exact Or.inl rfl | exact Or.inr rfl)) (pss_cons (ps_while PassesOwn.never (PW.pt (pw_and (pt_cmpR op_lt (pv 4) (pe_callB (call_lenK K) (by rfl) T.n_len (by decide +kernel) (pa_cons (pv 3) pa_nil)) (nomark _)) (pw_and1 (pt_not (pt_truK K (pe_call G_is_ahead (hr.mono (by decide)) rfl T.m_is_ahead T.k_is_ahead b_is_ahead .nil pass0 (pa_cons (pv 8) (pa_cons (pe_ix (ix_seqK K) (pe_ix (ix_seqK K) (pv 3) (pv 4) (fun _ _ => rfl)) pe_int (fun _ _ => rfl)) pa_nil)))))))) (pss_cons (ps_asg (pe_ix (ix_seqK K) (pv 3) (pv 4) (fun _ _ => rfl)) (pg_tup rfl (pgs_cons (pg_name (i := 9) sc_forms_behind.nd rfl (by first | exact Or.inl rfl | exact Or.inr rfl)) (pgs_cons (pg_name (i := 10) sc_forms_behind.nd rfl (by first | exact Or.inl rfl | exact Or.inr rfl)) pgs_nil)))) (pss_cons (ps_par (i := 6) (j := 7) rfl sc_forms_behind.nd rfl rfl (by decide) rfl rfl (pa_cons (pe_op op_sub (pv 6) (pe_op op_mulW (pv 10) (pe_ix (ix_seqK K) (pv 9) pe_int (fun _ _ => rfl)))) (pa_cons (pe_op op_add (pv 7) (pe_op op_mulW (pv 10) (pe_ix (ix_seqK K) (pv 9) pe_int (fun _ _ => rfl)))) pa_nil)) (by rfl)) (pss_one (ps_aug (i := 4) sc_forms_behind.nd rfl (by first | exact Or.inl rfl | exact Or.inr rfl) pe_int ip_add))))) (pss_one (ps_expr (pe_bm PySem.F.plainAttrs_list PySem.F.slot_list_append PySem.F.type_list_append mt_append (pv 5) (pa_cons (pe_tup (pa_cons (pv 6) (pa_cons (pv 7) pa_nil))) pa_nil)))))) (pss_one (ps_ret (pv 5)))))))), sp_body h fun ss S r S' hg => ?_⟩)
  · obtain ⟨rfl, _⟩ := hg; rfl
  · obtain ⟨rfl, rfl, rfl⟩ := hg
    refine sp_asg (S1 := S') (d := GOODT) (ev_var rfl) tg_pair ?_
    refine sp_parVC (ds := []) (y := .d (.int 0)) ev_int (en_lst ea_nil (Nat.zero_le _)) ?_
    refine sp_asg (S1 := S' ++ [.lst []]) (d := ORIG) (ev_var rfl) tg_pair ?_
    refine sp_env (env' := [some (.d GOODT), some (.d THREE), some (.d ORIG), some (.d BNDS), some (.d (.int 0)), some (.c S'.length), some (.d (.int 0)), some (.d (.int 0)), none, none, none]) rfl ?_
    refine sp_seq (P' := { nx := fun env' S2 => S2 = S' ++ [.lst []] ∧ env' = [some (.d GOODT), some (.d THREE), some (.d ORIG), some (.d BNDS), some (.d (.int 1)), some (.c S'.length), some (.d (.int 0)), some (.d (.int 0)), none, none, none] })
      (sp_if (b := true) (S1 := S' ++ [.lst []]) (et_andP (a := true) (b := true) (EvT.to (et_seq (ev_var rfl) .tup) rfl) fun _ => EvT.to (et_test (ev_op (ev_op (d := EASTD) (ev_op (d := bdD ((1, 0), 1)) (ev_var rfl) ev_int (op2_ix .tup rfl)) ev_int (op2_ix .tup rfl)) (ev_cst T.e_EAST) (op2_eqD (plS_d pl_east) (plS_d pl_east) (by decide) (by decide)))) (eqD_refl pl_east)) (fun _ => sp_set1 ev_int ⟨rfl, rfl⟩) (fun h => by cases h)) ?_
    rintro env' S2 ⟨rfl, rfl⟩
    refine sp_seq (P' := { nx := fun env' S2 => S2 = S' ++ [.lst (FRM.map prD)] ∧ ∃ o1 o2 o3 o4 o5 o6, env' = [some (.d GOODT), some (.d THREE), some (.d ORIG), some (.d BNDS), o1, some (.c S'.length), o2, o3, o4, o5, o6] })
      (sp_forA (xs := THR) (g := prD) (it_tup (ev_var rfl)) (fun i env' S2 => i ≤ 3 ∧ S2 = S' ++ [.lst ((FRM.take i).map prD)] ∧ ∃ o4 o5 o6, env' = [some (.d GOODT), some (.d THREE), some (.d ORIG), some (.d BNDS), some (.d (.int (if i = 3 then 2 else 1))), some (.c S'.length), some (.d (.int 0)), some (.d (.int (if i = 3 then -1 else 0))), o4, o5, o6]) ⟨by decide, rfl, none, none, none, rfl⟩ ?_ ?_ ?_) ?_
    · rintro i env' S2 as as2 ⟨_, rfl, _⟩ l1 l2 ht
      trivial
    · rintro i p env' S2 hp ⟨hi, rfl, o4, o5, o6, rfl⟩
      refine ⟨[8], fun env => env.set 8 (some (.d (prD p))), tg_name, ?_⟩
      have hget : ∀ {xs : List Dat}, (S' ++ [Dat.lst xs])[S'.length]? = some (.lst xs) := fun {xs} => get_app
      match i, hi with
      | 0, _ =>
        cases hp
        refine sp_seq (P' := { nx := fun env' S2 => S2 = S' ++ [.lst []] ∧ env' = [some (.d GOODT), some (.d THREE), some (.d ORIG), some (.d BNDS), some (.d (.int 1)), some (.c S'.length), some (.d (.int 0)), some (.d (.int 0)), some (.d (prD (1, 0))), o5, o6] }) (sp_while (fun m env' S2 => S2 = S' ++ [.lst []] ∧ env' = [some (.d GOODT), some (.d THREE), some (.d ORIG), some (.d BNDS), some (.d (.int 1)), some (.c S'.length), some (.d (.int 0)), some (.d (.int 0)), some (.d (prD (1, 0))), o5, o6]) (m0 := 0) ⟨rfl, rfl⟩ ?_) ?_
        · rintro m env' S2 ⟨rfl, rfl⟩
          refine ⟨false, S' ++ [.lst []], et_andP (a := true) (b := false) (EvT.to (et_test (ev_op (ev_var rfl) (ev_cb (ea_cons (ev_var rfl) ea_nil) (cd_len .tup)) o_lt)) rfl) fun _ => et_not (a := true) (et_bl (Ev.to (ev_call (G := gAhead) (ea_cons (ev_var rfl) (ea_cons (ev_op (d := prD (-1, 0)) (ev_op (d := bdD ((-1, 0), 1)) (ev_var rfl) (ev_var rfl) (op2_ix .tup rfl)) ev_int (op2_ix .tup rfl)) ea_nil)) ⟨(1, 0), (-1, 0), rfl, ⟨sm_small (by decide), sm_small (by decide)⟩, ⟨sm_small (by decide), sm_small (by decide)⟩, rfl, rfl⟩) (by rw [show aheadB (1, 0) (-1, 0) = true by decide +kernel]))), fun h => (by cases h), fun _ => ⟨rfl, rfl⟩⟩
        · rintro env' S2 ⟨rfl, rfl⟩
          exact sp_drop1 (Ev.toS (ev_append (d := prD (0, 0)) (ev_var rfl) (ev_tup (ds := [.int 0, .int 0]) (ea_cons (ev_var rfl) (ea_cons (ev_var rfl) ea_nil)) (szd (Nat.le_of_ble_eq_true rfl))) ⟨_, hget⟩ hget (by decide)) set_app) ⟨by decide, rfl, _, _, _, rfl⟩
      | 1, _ =>
        cases hp
        refine sp_seq (P' := { nx := fun env' S2 => S2 = S' ++ [.lst [prD (0, 0)]] ∧ env' = [some (.d GOODT), some (.d THREE), some (.d ORIG), some (.d BNDS), some (.d (.int 1)), some (.c S'.length), some (.d (.int 0)), some (.d (.int 0)), some (.d (prD (0, 1))), o5, o6] }) (sp_while (fun m env' S2 => S2 = S' ++ [.lst [prD (0, 0)]] ∧ env' = [some (.d GOODT), some (.d THREE), some (.d ORIG), some (.d BNDS), some (.d (.int 1)), some (.c S'.length), some (.d (.int 0)), some (.d (.int 0)), some (.d (prD (0, 1))), o5, o6]) (m0 := 0) ⟨rfl, rfl⟩ ?_) ?_
        · rintro m env' S2 ⟨rfl, rfl⟩
          refine ⟨false, S' ++ [.lst [prD (0, 0)]], et_andP (a := true) (b := false) (EvT.to (et_test (ev_op (ev_var rfl) (ev_cb (ea_cons (ev_var rfl) ea_nil) (cd_len .tup)) o_lt)) rfl) fun _ => et_not (a := true) (et_bl (Ev.to (ev_call (G := gAhead) (ea_cons (ev_var rfl) (ea_cons (ev_op (d := prD (-1, 0)) (ev_op (d := bdD ((-1, 0), 1)) (ev_var rfl) (ev_var rfl) (op2_ix .tup rfl)) ev_int (op2_ix .tup rfl)) ea_nil)) ⟨(0, 1), (-1, 0), rfl, ⟨sm_small (by decide), sm_small (by decide)⟩, ⟨sm_small (by decide), sm_small (by decide)⟩, rfl, rfl⟩) (by rw [show aheadB (0, 1) (-1, 0) = true by decide +kernel]))), fun h => (by cases h), fun _ => ⟨rfl, rfl⟩⟩
        · rintro env' S2 ⟨rfl, rfl⟩
          exact sp_drop1 (Ev.toS (ev_append (d := prD (0, 0)) (ev_var rfl) (ev_tup (ds := [.int 0, .int 0]) (ea_cons (ev_var rfl) (ea_cons (ev_var rfl) ea_nil)) (szd (Nat.le_of_ble_eq_true rfl))) ⟨_, hget⟩ hget (by decide)) set_app) ⟨by decide, rfl, _, _, _, rfl⟩
      | 2, _ =>
        cases hp
        refine sp_seq (P' := { nx := fun env' S2 => S2 = S' ++ [.lst [prD (0, 0), prD (0, 0)]] ∧ ∃ o5 o6, env' = [some (.d GOODT), some (.d THREE), some (.d ORIG), some (.d BNDS), some (.d (.int 2)), some (.c S'.length), some (.d (.int 0)), some (.d (.int (-1))), some (.d (prD (-1, -1))), o5, o6] }) (sp_while (fun m env' S2 => S2 = S' ++ [.lst [prD (0, 0), prD (0, 0)]] ∧ ((m = 1 ∧ ∃ o5 o6, env' = [some (.d GOODT), some (.d THREE), some (.d ORIG), some (.d BNDS), some (.d (.int 1)), some (.c S'.length), some (.d (.int 0)), some (.d (.int 0)), some (.d (prD (-1, -1))), o5, o6]) ∨ (m = 0 ∧ ∃ o5 o6, env' = [some (.d GOODT), some (.d THREE), some (.d ORIG), some (.d BNDS), some (.d (.int 2)), some (.c S'.length), some (.d (.int 0)), some (.d (.int (-1))), some (.d (prD (-1, -1))), o5, o6]))) (m0 := 1) ⟨rfl, .inl ⟨rfl, o5, o6, rfl⟩⟩ ?_) ?_
        · rintro m env' S2 ⟨rfl, ⟨rfl, o5, o6, rfl⟩ | ⟨rfl, o5, o6, rfl⟩⟩
          · refine ⟨true, S' ++ [.lst [prD (0, 0), prD (0, 0)]], et_andP (a := true) (b := true) (EvT.to (et_test (ev_op (ev_var rfl) (ev_cb (ea_cons (ev_var rfl) ea_nil) (cd_len .tup)) o_lt)) rfl) fun _ => et_not (a := false) (et_bl (Ev.to (ev_call (G := gAhead) (ea_cons (ev_var rfl) (ea_cons (ev_op (d := prD (-1, 0)) (ev_op (d := bdD ((-1, 0), 1)) (ev_var rfl) (ev_var rfl) (op2_ix .tup rfl)) ev_int (op2_ix .tup rfl)) ea_nil)) ⟨(-1, -1), (-1, 0), rfl, ⟨sm_small (by decide), sm_small (by decide)⟩, ⟨sm_small (by decide), sm_small (by decide)⟩, rfl, rfl⟩) (by rw [show aheadB (-1, -1) (-1, 0) = false by decide +kernel]))), fun _ => ?_, fun h => (by cases h)⟩
            refine sp_asg (S1 := S' ++ [.lst [prD (0, 0), prD (0, 0)]]) (d := bdD ((-1, 0), 1)) (ev_op (ev_var rfl) (ev_var rfl) (op2_ix .tup rfl)) tg_pair ?_
            refine sp_par (x := .d (.int 0)) (y := .d (.int (-1))) (S1 := S' ++ [.lst [prD (0, 0), prD (0, 0)]]) (ea_cons (Ev.to (ev_op (ev_var rfl) (ev_op (ev_var rfl) (ev_op (d := .int 0) (ev_var rfl) ev_int (op2_ix .tup rfl)) (o_mulW (cm_of (sm_small (by decide)) (sm_small (by decide))))) o_sub) rfl) (ea_cons (Ev.to (ev_op (ev_var rfl) (ev_op (ev_var rfl) (ev_op (d := .int (-1)) (ev_var rfl) ev_int (op2_ix .tup rfl)) (o_mulW (cm_of (sm_small (by decide)) (sm_small (by decide))))) o_add) rfl) ea_nil)) ?_
            exact sp_aug1 (p := 1) (q := 1) rfl ev_int ⟨0, by omega, rfl, .inr ⟨rfl, _, _, rfl⟩⟩
          · exact ⟨false, S' ++ [.lst [prD (0, 0), prD (0, 0)]], et_andP (a := false) (b := false) (EvT.to (et_test (ev_op (ev_var rfl) (ev_cb (ea_cons (ev_var rfl) ea_nil) (cd_len .tup)) o_lt)) rfl) (fun h => by cases h), fun h => (by cases h), fun _ => ⟨rfl, _, _, rfl⟩⟩
        · rintro env' S2 ⟨rfl, o5, o6, rfl⟩
          exact sp_drop1 (Ev.toS (ev_append (d := prD (0, -1)) (ev_var rfl) (ev_tup (ds := [.int 0, .int (-1)]) (ea_cons (ev_var rfl) (ea_cons (ev_var rfl) ea_nil)) (szd (Nat.le_of_ble_eq_true rfl))) ⟨_, hget⟩ hget (by decide)) set_app) ⟨by decide, rfl, _, _, _, rfl⟩
      | 3, _ => cases hp
    · rintro env' S2 ⟨_, rfl, o4, o5, o6, rfl⟩
      exact ⟨rfl, _, _, _, _, _, _, rfl⟩
    · rintro env' S2 ⟨rfl, o1, o2, o3, o4, o5, o6, rfl⟩
      exact sp_retC (k := S'.length) rfl get_app (Nat.le_refl _) ⟨rfl, List.take_left ..⟩
theorem ok_values_on (T : Txt K mg) : FnOk P w K mg base (L2.CX P w) 7 T.a_values_on T.d_values_on ["told", "fan"] (SpR K (gVO T.a_InvalidOperation)) := by
  have G_need_told := ok_need_told (P := P) (w := w) (base := base) T
  have b_need_told := T.b_need_told
  have G_need_fan := ok_need_fan (P := P) (w := w) (base := base) T
  have b_need_fan := T.b_need_fan
  have G_forms_behind := ok_forms_behind (P := P) (w := w) (base := base) T
  have b_forms_behind := T.b_forms_behind
  have G_product_of := ok_product_of (P := P) (w := w) (base := base) T
  have b_product_of := T.b_product_of
  refine T.F_values_on.okX sc_values_on (spr_len (k := 2) fun ss S o S' hg => ?_) (fun cdv A outer s H vs Q E hr h => ⟨_, (pss_cons (ps_expr (pe_call G_need_told (hr.mono (by decide)) rfl T.m_need_told T.k_need_told b_need_told .nil (passR (takes_of rfl rfl rfl rfl)) (pa_cons (pv 0) pa_nil))) (pss_cons (ps_expr (pe_call G_need_fan (hr.mono (by decide)) rfl T.m_need_fan T.k_need_fan b_need_fan .nil (passR (takes_of rfl rfl rfl rfl)) (pa_cons (pv 1) pa_nil))) (pss_one (ps_ret (pe_callTy (call_tupK K rfl) (by rfl) T.n_tuple (by decide +kernel) (pa_cons (pe_lc (own := [("form", 2), ("ray", 3)]) (g := gTup K 2 (gCons (gName 2) (gCons (gName 3) gNil))) rfl sc_values_on.nd (pi_zipGK K (by rfl) T.n_zip (pa_cons (pe_call G_forms_behind (hr.mono (by decide)) rfl T.m_forms_behind T.k_forms_behind b_forms_behind .nil pass0 (pa_cons (pv 0) (pa_cons (pv 1) pa_nil))) (pa_cons (pv 1) pa_nil))) (blkOk_by (own := [("form", 2), ("ray", 3)]) (N := ["told", "fan", "form", "ray"]) (sc := (defScope s_values_on)) (by decide +kernel)) (fun _ _ _ _ _ => (pg_tup rfl (pgs_cons (pg_name (i := 2) sc_values_on.nd rfl (by first | exact Or.inl rfl | exact Or.inr rfl)) (pgs_cons (pg_name (i := 3) sc_values_on.nd rfl (by first | exact Or.inl rfl | exact Or.inr rfl)) pgs_nil)))) (fun _ _ _ _ _ => pts_nil) (fun _ _ _ _ _ => (pe_call G_product_of (hr.mono (by decide)) rfl T.m_product_of T.k_product_of b_product_of .nil pass0 (pa_cons (pv 2) (pa_cons (pv 3) pa_nil))))) pa_nil)))))), sp_bodyR h fun ss S o S' hg => ?_⟩)
  · obtain ⟨t, f, rfl, _⟩ := hg; rfl
  · obtain ⟨t, f, rfl, ht, hf, hs, hsf, ho, rfl⟩ := hg
    rcases ho with ⟨hb, rfl⟩ | ⟨rfl, hb, rfl⟩ | ⟨rfl, rfl, rfl⟩
    · exact sp_dropXq (S1 := S') (ev_callX (C := T.a_InvalidOperation) (p := none) (ea_cons (ev_var rfl) ea_nil) ⟨t, rfl, ht, hs, .inl ⟨hb, rfl⟩, rfl⟩) (by show XOk K E _ S' = _; rw [List.take_length])
    · refine sp_drop (S1 := S') (x := .d .non) (ev_callR (ea_cons (ev_var rfl) ea_nil) ⟨_, rfl, ht, hs, .inr ⟨rfl, rfl⟩, rfl⟩) ?_
      exact sp_dropXq (S1 := S') (ev_callX (C := T.a_InvalidOperation) (p := none) (ea_cons (ev_var rfl) ea_nil) ⟨f, rfl, hf, hsf, .inl ⟨hb, rfl⟩, rfl⟩) (by show XOk K E _ S' = _; rw [List.take_length])
    · refine sp_drop (S1 := S') (x := .d .non) (ev_callR (ea_cons (ev_var rfl) ea_nil) ⟨_, rfl, ht, hs, .inr ⟨rfl, rfl⟩, rfl⟩) ?_
      refine sp_drop (S1 := S') (x := .d .non) (ev_callR (ea_cons (ev_var rfl) ea_nil) ⟨_, rfl, hf, hsf, .inr ⟨rfl, rfl⟩, rfl⟩) ?_
      refine sp_ret (d := .tup [.int 0, .int 0, .int 1]) (Ev.to (ev_cb (ea_cons (EvN.ev (en_mapA (xs := FRM.zip THR) (g := fun z => Dat.tup [prD z.1, prD z.2]) (is := [2, 3]) (fun z => Dat.int (z.1.1 * z.2.1 + z.1.2 * z.2.2)) (it_zipA (x := .lst (FRM.map prD)) (y := THREE) (u := FRM) (v := THR) (ea_cons (ev_call (ea_cons (ev_var rfl) (ea_cons (ev_var rfl) ea_nil)) ⟨rfl, rfl, rfl⟩) (ea_cons (ev_var rfl) ea_nil)) .lst .tup) (size_1000 (by decide)) (fun _ _ => trivial) (by decide) (fun z env => (env.set 2 (some (.d (prD z.1)))).set 3 (some (.d (prD z.2)))) fun z hz => ⟨tg_pair, ev_call (ea_cons (ev_var rfl) (ea_cons (ev_var rfl) ea_nil)) ⟨z.1, z.2, rfl, ?_, ?_, rfl, rfl⟩⟩)) ea_nil) (cd_tup .lst)) rfl) ⟨rfl, List.take_length⟩
      · have := (by decide +kernel : ∀ p ∈ FRM, p.1.natAbs ≤ 1 ∧ p.2.natAbs ≤ 1) z.1 (List.of_mem_zip hz).1
        exact ⟨sm_small this.1, sm_small this.2⟩
      · have := (by decide +kernel : ∀ p ∈ THR, p.1.natAbs ≤ 1 ∧ p.2.natAbs ≤ 1) z.2 (List.of_mem_zip hz).2
        exact ⟨sm_small this.1, sm_small this.2⟩
end
end N46

set_option Elab.async false
set_option linter.all false
set_option maxRecDepth 100000
set_option maxHeartbeats 4000000
namespace N46
open PySem PySem.Spec PyProof.Rows L2 RW

theorem sp_retIfC {K : PySem.W.Frag} {n : Nat} {tt : TT} {ta tb : TE} {env : Env1} {S : List Dat} {P : Post} (h : EvT K tt env S false S) (q : SP K n (tRet tb) env S P) : SP K n (tRet (tIf tt ta tb)) env S P := fun B0 H0 as0 Bk B H as σ hl f c g D m => h B H as σ c g _ fun B1 H1 c1 e1 => q B0 H0 as0 Bk B1 H1 as σ hl (f.step e1) c1 (g.mono e1.ex) D m
theorem o_fdivN {K : PySem.W.Frag} {S : List Dat} {i j : Int} (h : CDivN i j) : Op2 K (rI CDivN fun i j => V.int (i.fdiv j)) (.d (.int i)) (.d (.int j)) S (.int (i.fdiv j)) := op2_int h fun B => .int _
theorem o_isNN {K : PySem.W.Frag} {S : List Dat} : Op2 K (fun x y H Q => y = V.non ∧ Q (.bl (decide (x = V.non))) H) (.d .non) (.d .non) S (.bl true) := fun B H as v w c r1 r2 Q q => by
  cases r1; cases r2
  exact ⟨rfl, q _ B H c Evo.refl (.bl _)⟩
theorem o_isNL {K : PySem.W.Frag} {S xs : List Dat} : Op2 K (fun x y H Q => y = V.non ∧ Q (.bl (decide (x = V.non))) H) (.d (.lst xs)) (.d .non) S (.bl false) := fun B H as v w c r1 r2 Q q => by
  cases r2
  cases r1
  exact ⟨rfl, q _ B H c Evo.refl (.bl _)⟩
def bzS (k : Nat) : Int := if k = 1 then 0 else 1
def bzT (k : Nat) : Int := if k = 1 then 1 else 0
def gBz (ss : List Sl) (S : List Dat) (r : Dat) (S' : List Dat) : Prop := ∃ k : Nat, ss = [.d (.int 1), .d (.int (k : Nat))] ∧ k < 1000 ∧ r = .tup [.int 1, .int (bzS k), .int (bzT k)] ∧ S' = S
def gNx (ss : List Sl) (S : List Dat) (r : Dat) (S' : List Dat) : Prop := ∃ k : Nat, ss = [.d (prD (1, (k : Nat))), .d (prD (1, 99))] ∧ k ≤ 97 ∧ r = prD (1, ((k + 1 : Nat) : Int)) ∧ S' = S
def gRB (ss : List Sl) (S : List Dat) (r : Dat) (S' : List Dat) : Prop := ((∃ (p q : Int × Int) (m : Int), ss = [.d (prD p), .d (prD q), .d (.int m)] ∧ SmP p ∧ SmP q ∧ detF p q ≤ 1 ∧ r = .lst []) ∨ (ss = [.d (prD (1, 0)), .d (prD (1, 99)), .d (.int 63)] ∧ r = .non)) ∧ S' = S
theorem sm_k {k : Nat} (h : k < 1000) : SmI (k : Nat) := by
  unfold SmI
  show k.log2 < 1000
  rcases Nat.eq_zero_or_pos k with rfl | hp
  · decide
  · exact (Nat.log2_lt (by omega)).mpr (Nat.lt_of_lt_of_le h (by decide))
theorem sm_c {i : Int} (h : i.natAbs < 1000) : SmI i := by
  have := sm_k h
  unfold SmI at this ⊢
  exact this
theorem div_k : ∀ k : Nat, k < 98 → (-1 : Int) / (99 - (k : Int)) = -1 := by decide +kernel
theorem cdw {i j : Int} (h : 0 < j) (h2 : j < 1000) : CDivW i j := ⟨h, by
  have : j.natAbs < 1000 := by omega
  have := (sm_c this)
  unfold SmI at this
  omega⟩
section
variable {P : Program} {w : World} {K : PySem.W.Frag} {mg : Str → Option Value} {base : Heap}

theorem ok_bezout (T : Txt K mg) : FnOk P w K mg base CX0 1 T.a_bezout T.d_bezout ["one", "other"] (SpD K (gBz)) := by
  refine T.F_bezout.ok sc_bezout (spd_len (k := 2) fun ss S r S' hg => ?_) (fun cdv A outer s H vs Q E hr h => ⟨_, (pss_cons (ps_par3 (i := 2) (j := 3) (l := 4) rfl sc_bezout.nd rfl rfl rfl (by decide) (by decide) (by decide) rfl rfl rfl (pa_cons (pv 0) (pa_cons pe_int (pa_cons pe_int pa_nil))) (by rfl)) (pss_cons (ps_par3 (i := 5) (j := 6) (l := 7) rfl sc_bezout.nd rfl rfl rfl (by decide) (by decide) (by decide) rfl rfl rfl (pa_cons (pv 1) (pa_cons pe_int (pa_cons pe_int pa_nil))) (by rfl)) (pss_cons (ps_while PassesOwn.never (pt_cmpR op_ne (pv 5) pe_int (nomark _)) (pss_cons (ps_set (i := 8) sc_bezout.nd rfl (by first | exact Or.inl rfl | exact Or.inr rfl) (pe_op op_fdivW (pv 2) (pv 5))) (pss_cons (ps_par (i := 2) (j := 5) rfl sc_bezout.nd rfl rfl (by decide) rfl rfl (pa_cons (pv 5) (pa_cons (pe_op op_sub (pv 2) (pe_op op_mulW (pv 8) (pv 5))) pa_nil)) (by rfl)) (pss_cons (ps_par (i := 3) (j := 6) rfl sc_bezout.nd rfl rfl (by decide) rfl rfl (pa_cons (pv 6) (pa_cons (pe_op op_sub (pv 3) (pe_op op_mulW (pv 8) (pv 6))) pa_nil)) (by rfl)) (pss_one (ps_par (i := 4) (j := 7) rfl sc_bezout.nd rfl rfl (by decide) rfl rfl (pa_cons (pv 7) (pa_cons (pe_op op_sub (pv 4) (pe_op op_mulW (pv 8) (pv 7))) pa_nil)) (by rfl))))))) (pss_one (ps_ret (pe_ifExp (pt_cmpR op_gt (pv 2) pe_int (nomark _)) (pe_tup (pa_cons (pv 2) (pa_cons (pv 3) (pa_cons (pv 4) pa_nil)))) (pe_tup (pa_cons (pe_un un_neg (pv 2)) (pa_cons (pe_un un_neg (pv 3)) (pa_cons (pe_un un_neg (pv 4)) pa_nil)))))))))), sp_body h fun ss S r S' hg => ?_⟩)
  · obtain ⟨k, rfl, _⟩ := hg; rfl
  · obtain ⟨k, rfl, hk, rfl, rfl⟩ := hg
    refine sp_par3 (x := .d (.int 1)) (y := .d (.int 1)) (z := .d (.int 0)) (S1 := S') (ea_cons (ev_var rfl) (ea_cons ev_int (ea_cons ev_int ea_nil))) ?_
    refine sp_par3 (x := .d (.int (k : Nat))) (y := .d (.int 0)) (z := .d (.int 1)) (S1 := S') (ea_cons (ev_var rfl) (ea_cons ev_int (ea_cons ev_int ea_nil))) ?_
    refine sp_seq (P' := { nx := fun env' S2 => S2 = S' ∧ ∃ d a o, env' = [some (.d (.int 1)), some (.d (.int (k : Nat))), some (.d (.int 1)), some (.d (.int (bzS k))), some (.d (.int (bzT k))), some (.d (.int 0)), some (.d (.int d)), some (.d (.int a)), o] })
      (sp_while (fun m env' S2 => S2 = S' ∧ ((m = 2 ∧ env' = [some (.d (.int 1)), some (.d (.int (k : Nat))), some (.d (.int 1)), some (.d (.int 1)), some (.d (.int 0)), some (.d (.int (k : Nat))), some (.d (.int 0)), some (.d (.int 1)), none]) ∨ (m = 1 ∧ 2 ≤ k ∧ ∃ o, env' = [some (.d (.int 1)), some (.d (.int (k : Nat))), some (.d (.int (k : Nat))), some (.d (.int 0)), some (.d (.int 1)), some (.d (.int 1)), some (.d (.int 1)), some (.d (.int 0)), o]) ∨ (m = 0 ∧ ∃ d a o, env' = [some (.d (.int 1)), some (.d (.int (k : Nat))), some (.d (.int 1)), some (.d (.int (bzS k))), some (.d (.int (bzT k))), some (.d (.int 0)), some (.d (.int d)), some (.d (.int a)), o]))) (m0 := 2) ⟨rfl, .inl ⟨rfl, rfl⟩⟩ ?_) ?_
    · rintro m env' S2 ⟨rfl, ⟨rfl, rfl⟩ | ⟨rfl, h2, o, rfl⟩ | ⟨rfl, d, a, o, rfl⟩⟩
      · by_cases h0 : k = 0
        · subst h0
          exact ⟨false, S2, EvT.to (et_test (ev_op (ev_var rfl) ev_int op2_ne_int)) rfl, fun h => (by cases h), fun _ => ⟨rfl, 0, 1, none, rfl⟩⟩
        · refine ⟨true, S2, EvT.to (et_test (ev_op (ev_var rfl) ev_int op2_ne_int)) (by rw [decide_eq_false (by omega)]; rfl), fun _ => ?_, fun h => (by cases h)⟩
          by_cases h1 : k = 1
          · subst h1
            refine sp_set (x := .d (.int 1)) (S1 := S2) (Ev.to (ev_op (ev_var rfl) (ev_var rfl) (o_fdivW (cdw (by decide) (by decide)))) rfl) ?_
            refine sp_par (x := .d (.int 1)) (y := .d (.int 0)) (S1 := S2) (ea_cons (ev_var rfl) (ea_cons (Ev.to (ev_op (ev_var rfl) (ev_op (ev_var rfl) (ev_var rfl) (o_mulW (cm_of (sm_small (by decide)) (sm_small (by decide))))) o_sub) rfl) ea_nil)) ?_
            refine sp_par (x := .d (.int 0)) (y := .d (.int 1)) (S1 := S2) (ea_cons (ev_var rfl) (ea_cons (Ev.to (ev_op (ev_var rfl) (ev_op (ev_var rfl) (ev_var rfl) (o_mulW (cm_of (sm_small (by decide)) (sm_small (by decide))))) o_sub) rfl) ea_nil)) ?_
            exact sp_par1 (x := .d (.int 1)) (y := .d (.int (-1))) (S1 := S2) (ea_cons (ev_var rfl) (ea_cons (Ev.to (ev_op (ev_var rfl) (ev_op (ev_var rfl) (ev_var rfl) (o_mulW (cm_of (sm_small (by decide)) (sm_small (by decide))))) o_sub) rfl) ea_nil)) ⟨0, by omega, rfl, .inr (.inr ⟨rfl, 1, -1, _, rfl⟩)⟩
          · have hk2 : 2 ≤ k := by omega
            have e0 : (1 : Int) / (k : Int) = 0 := Int.ediv_eq_zero_of_lt (by decide) (by omega)
            refine sp_set (x := .d (.int 0)) (S1 := S2) (Ev.to (ev_op (ev_var rfl) (ev_var rfl) (o_fdivW (cdw (by omega) (by omega)))) (by rw [e0])) ?_
            refine sp_par (x := .d (.int (k : Nat))) (y := .d (.int 1)) (S1 := S2) (ea_cons (ev_var rfl) (ea_cons (Ev.to (ev_op (ev_var rfl) (ev_op (ev_var rfl) (ev_var rfl) (o_mulW (cm_of (sm_small (by decide)) (sm_k hk)))) o_sub) (by rw [Int.zero_mul]; rfl)) ea_nil)) ?_
            refine sp_par (x := .d (.int 0)) (y := .d (.int 1)) (S1 := S2) (ea_cons (ev_var rfl) (ea_cons (Ev.to (ev_op (ev_var rfl) (ev_op (ev_var rfl) (ev_var rfl) (o_mulW (cm_of (sm_small (by decide)) (sm_small (by decide))))) o_sub) rfl) ea_nil)) ?_
            exact sp_par1 (x := .d (.int 1)) (y := .d (.int 0)) (S1 := S2) (ea_cons (ev_var rfl) (ea_cons (Ev.to (ev_op (ev_var rfl) (ev_op (ev_var rfl) (ev_var rfl) (o_mulW (cm_of (sm_small (by decide)) (sm_small (by decide))))) o_sub) rfl) ea_nil)) ⟨1, by omega, rfl, .inr (.inl ⟨rfl, hk2, _, rfl⟩)⟩
      · refine ⟨true, S2, EvT.to (et_test (ev_op (ev_var rfl) ev_int op2_ne_int)) rfl, fun _ => ?_, fun h => (by cases h)⟩
        have es : bzS k = 1 := if_neg (by omega)
        have et : bzT k = 0 := if_neg (by omega)
        refine sp_set (x := .d (.int (k : Nat))) (S1 := S2) (Ev.to (ev_op (ev_var rfl) (ev_var rfl) (o_fdivW (cdw (by decide) (by decide)))) (by rw [Int.ediv_one])) ?_
        refine sp_par (x := .d (.int 1)) (y := .d (.int 0)) (S1 := S2) (ea_cons (ev_var rfl) (ea_cons (Ev.to (ev_op (ev_var rfl) (ev_op (ev_var rfl) (ev_var rfl) (o_mulW (cm_of (sm_k hk) (sm_small (by decide))))) o_sub) (by rw [Int.mul_one, Int.sub_self])) ea_nil)) ?_
        refine sp_par (x := .d (.int 1)) (y := .d (.int (0 - (k : Int) * 1))) (S1 := S2) (ea_cons (ev_var rfl) (ea_cons (ev_op (ev_var rfl) (ev_op (ev_var rfl) (ev_var rfl) (o_mulW (cm_of (sm_k hk) (sm_small (by decide))))) o_sub) ea_nil)) ?_
        exact sp_par1 (x := .d (.int 0)) (y := .d (.int (1 - (k : Int) * 0))) (S1 := S2) (ea_cons (ev_var rfl) (ea_cons (ev_op (ev_var rfl) (ev_op (ev_var rfl) (ev_var rfl) (o_mulW (cm_of (sm_k hk) (sm_small (by decide))))) o_sub) ea_nil)) ⟨0, by omega, rfl, .inr (.inr ⟨rfl, _, _, _, by rw [es, et]; rfl⟩)⟩
      · exact ⟨false, S2, EvT.to (et_test (ev_op (ev_var rfl) ev_int op2_ne_int)) rfl, fun h => (by cases h), fun _ => ⟨rfl, d, a, o, rfl⟩⟩
    · rintro env' S2 ⟨rfl, d, a, o, rfl⟩
      exact sp_ret (d := .tup [.int 1, .int (bzS k), .int (bzT k)]) (ev_if (b := true) (EvT.to (et_test (ev_op (ev_var rfl) ev_int o_gt)) rfl) (fun _ => ev_tup (ds := [.int 1, .int (bzS k), .int (bzT k)]) (ea_cons (ev_var rfl) (ea_cons (ev_var rfl) (ea_cons (ev_var rfl) ea_nil))) (szd (Nat.le_of_ble_eq_true rfl))) (fun h => by cases h)) ⟨rfl, List.take_length⟩
theorem ok_next_ray (T : Txt K mg) : FnOk P w K mg base CX0 2 T.a_next_ray T.d_next_ray ["ray", "other"] (SpD K (gNx)) := by
  have G_bezout := ok_bezout (P := P) (w := w) (base := base) T
  have b_bezout := T.b_bezout
  have G_det := ok_det (P := P) (w := w) (base := base) T
  have b_det := T.b_det
  refine T.F_next_ray.ok sc_next_ray (spd_len (k := 2) fun ss S r S' hg => ?_) (fun cdv A outer s H vs Q E hr h => ⟨_, (pss_cons (ps_asg (pe_call G_bezout (hr.mono (by decide)) rfl T.m_bezout T.k_bezout b_bezout .nil pass0 (pa_cons (pe_ix (ix_seqK K) (pv 0) pe_int (fun _ _ => rfl)) (pa_cons (pe_ix (ix_seqK K) (pv 0) pe_int (fun _ _ => rfl)) pa_nil))) (pg_tup rfl (pgs_cons (pg_name (i := 2) sc_next_ray.nd rfl (by first | exact Or.inl rfl | exact Or.inr rfl)) (pgs_cons (pg_name (i := 3) sc_next_ray.nd rfl (by first | exact Or.inl rfl | exact Or.inr rfl)) (pgs_cons (pg_name (i := 4) sc_next_ray.nd rfl (by first | exact Or.inl rfl | exact Or.inr rfl)) pgs_nil))))) (pss_cons (ps_set (i := 5) sc_next_ray.nd rfl (by first | exact Or.inl rfl | exact Or.inr rfl) (pe_tup (pa_cons (pe_un un_neg (pv 4)) (pa_cons (pv 3) pa_nil)))) (pss_cons (ps_set (i := 6) sc_next_ray.nd rfl (by first | exact Or.inl rfl | exact Or.inr rfl) (pe_un un_neg (pe_op op_fdivW (pe_call G_det (hr.mono (by decide)) rfl T.m_det T.k_det b_det .nil pass0 (pa_cons (pv 5) (pa_cons (pv 1) pa_nil))) (pe_call G_det (hr.mono (by decide)) rfl T.m_det T.k_det b_det .nil pass0 (pa_cons (pv 0) (pa_cons (pv 1) pa_nil)))))) (pss_one (ps_ret (pe_tup (pa_cons (pe_op op_add (pe_ix (ix_seqK K) (pv 5) pe_int (fun _ _ => rfl)) (pe_op op_mulW (pv 6) (pe_ix (ix_seqK K) (pv 0) pe_int (fun _ _ => rfl)))) (pa_cons (pe_op op_add (pe_ix (ix_seqK K) (pv 5) pe_int (fun _ _ => rfl)) (pe_op op_mulW (pv 6) (pe_ix (ix_seqK K) (pv 0) pe_int (fun _ _ => rfl)))) pa_nil)))))))), sp_body h fun ss S r S' hg => ?_⟩)
  · obtain ⟨k, rfl, _⟩ := hg; rfl
  · obtain ⟨k, rfl, hk, rfl, rfl⟩ := hg
    refine sp_asg (S1 := S') (d := .tup [.int 1, .int (bzS k), .int (bzT k)]) (ev_call (ea_cons (ev_op (d := .int 1) (ev_var rfl) ev_int (op2_ix .tup at0)) (ea_cons (ev_op (d := .int (k : Nat)) (ev_var rfl) ev_int (op2_ix .tup at1)) ea_nil)) ⟨k, rfl, by omega, rfl, rfl⟩) tg_three ?_
    have hs : (bzS k).natAbs < 1000 ∧ (bzT k).natAbs < 1000 := by unfold bzS bzT; split <;> decide
    refine sp_set (x := .d (prD (-(bzT k), bzS k))) (S1 := S') (ev_tup (ds := [.int (-(bzT k)), .int (bzS k)]) (ea_cons (ev_un (ev_var rfl) o_neg) (ea_cons (ev_var rfl) ea_nil)) (szd (Nat.le_of_ble_eq_true rfl))) ?_
    have hd2 : detF (1, (k : Int)) (1, 99) = 99 - (k : Int) := by unfold detF; omega
    have h1 : SmP (-(bzT k), bzS k) := ⟨sm_c (by rw [Int.natAbs_neg]; exact hs.2), sm_c hs.1⟩
    have h2 : SmP ((1, (k : Int)) : Int × Int) := ⟨sm_small (i := 1) (by decide), sm_k (by omega)⟩
    have h3 : SmP ((1, 99) : Int × Int) := ⟨sm_small (by decide), sm_c (by decide)⟩
    have em : -(detF (-(bzT k), bzS k) (1, 99) / detF (1, (k : Int)) (1, 99)) = (if k = 1 then 2 else 1) := by
      rw [hd2]
      by_cases e : k = 1
      · subst e; rfl
      · have : detF (-(bzT k), bzS k) (1, 99) = -1 := by unfold detF bzT bzS; rw [if_neg e, if_neg e]; rfl
        rw [this, div_k k (by omega), if_neg e]; rfl
    refine sp_set (x := .d (.int (if k = 1 then 2 else 1))) (S1 := S') (Ev.to (ev_un (ev_op (ev_call (ea_cons (ev_var rfl) (ea_cons (ev_var rfl) ea_nil)) ⟨_, _, rfl, h1, h3, rfl, rfl⟩) (ev_call (ea_cons (ev_var rfl) (ea_cons (ev_var rfl) ea_nil)) ⟨(1, (k : Int)), (1, 99), rfl, h2, h3, rfl, rfl⟩) (o_fdivW (cdw (by rw [hd2]; omega) (by rw [hd2]; omega)))) o_neg) (by rw [em])) ?_
    have hm : SmI (if k = 1 then 2 else 1) := by split <;> exact sm_c (by decide)
    refine sp_ret (d := prD (1, ((k + 1 : Nat) : Int))) (Ev.to (ev_tup (ds := [.int (-(bzT k) + (if k = 1 then 2 else 1) * 1), .int (bzS k + (if k = 1 then 2 else 1) * (k : Int))]) (ea_cons (ev_op (ev_op (d := .int (-(bzT k))) (ev_var rfl) ev_int (op2_ix .tup at0)) (ev_op (ev_var rfl) (ev_op (d := .int 1) (ev_var rfl) ev_int (op2_ix .tup at0)) (o_mulW (cm_of hm (sm_small (by decide))))) o_add) (ea_cons (ev_op (ev_op (d := .int (bzS k)) (ev_var rfl) ev_int (op2_ix .tup at1)) (ev_op (ev_var rfl) (ev_op (d := .int (k : Nat)) (ev_var rfl) ev_int (op2_ix .tup at1)) (o_mulW (cm_of hm (sm_k (by omega))))) o_add) ea_nil)) (szd (Nat.le_of_ble_eq_true rfl))) ?_) ⟨rfl, List.take_length⟩
    by_cases e : k = 1
    · subst e; rfl
    · unfold bzT bzS
      rw [if_neg e, if_neg e, if_neg e, show (1 : Int) + 1 * (k : Int) = ((k + 1 : Nat) : Int) by omega]; rfl
def LJ (j : Nat) : List Dat := (List.range j).map fun i => prD (1, ((i + 1 : Nat) : Int))
theorem lj_next (j : Nat) : LJ (j + 1) = LJ j ++ [prD (1, ((j + 1 : Nat) : Int))] := by
  unfold LJ; rw [List.range_succ, List.map_append]; rfl
theorem lj_len (j : Nat) : (LJ j).length = j := by unfold LJ; rw [List.length_map, List.length_range]
theorem ok_rays_between (T : Txt K mg) : FnOk P w K mg base CX0 3 T.a_rays_between T.d_rays_between ["ray", "other", "most"] (SpD K (gRB)) := by
  have G_det := ok_det (P := P) (w := w) (base := base) T
  have b_det := T.b_det
  have G_next_ray := ok_next_ray (P := P) (w := w) (base := base) T
  have b_next_ray := T.b_next_ray
  refine T.F_rays_between.ok sc_rays_between (spd_len (k := 3) fun ss S r S' hg => ?_) (fun cdv A outer s H vs Q E hr h => ⟨_, (pss_cons (ps_par (i := 3) (j := 4) rfl sc_rays_between.nd rfl rfl (by decide) rfl rfl (pa_cons (pe_lst pa_nil) (pa_cons (pv 0) pa_nil)) (by rfl)) (pss_cons (ps_while PassesOwn.never (pt_cmpR op_gt (pe_call G_det (hr.mono (by decide)) rfl T.m_det T.k_det b_det .nil pass0 (pa_cons (pv 4) (pa_cons (pv 1) pa_nil))) pe_int (nomark _)) (pss_cons (ps_if (pt_cmpR op_eq (pe_callB (call_lenK K) (by rfl) T.n_len (by decide +kernel) (pa_cons (pv 3) pa_nil)) (pv 2) (nomark _)) (pss_one (ps_ret pe_non)) pss_nil) (pss_cons (ps_set (i := 4) sc_rays_between.nd rfl (by first | exact Or.inl rfl | exact Or.inr rfl) (pe_call G_next_ray (hr.mono (by decide)) rfl T.m_next_ray T.k_next_ray b_next_ray .nil pass0 (pa_cons (pv 4) (pa_cons (pv 1) pa_nil)))) (pss_one (ps_expr (pe_bm PySem.F.plainAttrs_list PySem.F.slot_list_append PySem.F.type_list_append mt_append (pv 3) (pa_cons (pv 4) pa_nil))))))) (pss_one (ps_ret (pv 3))))), sp_body h fun ss S r S' hg => ?_⟩)
  · obtain ⟨⟨p, q, m, rfl, _⟩ | ⟨rfl, _⟩, _⟩ := hg <;> rfl
  · obtain ⟨hc, rfl⟩ := hg
    have hget : ∀ {xs : List Dat}, (S' ++ [Dat.lst xs])[S'.length]? = some (.lst xs) := fun {xs} => get_app
    rcases hc with ⟨p, q, m, rfl, hp, hq, hd, rfl⟩ | ⟨rfl, rfl⟩
    · refine sp_parC (ds := []) (y := .d (prD p)) (en_lst ea_nil (Nat.zero_le _)) (ev_var rfl) ?_
      refine sp_seq (P' := { nx := fun env' S2 => S2 = S' ++ [.lst []] ∧ env' = [some (.d (prD p)), some (.d (prD q)), some (.d (.int m)), some (.c S'.length), some (.d (prD p))] })
        (sp_while (fun _ env' S2 => S2 = S' ++ [.lst []] ∧ env' = [some (.d (prD p)), some (.d (prD q)), some (.d (.int m)), some (.c S'.length), some (.d (prD p))]) (m0 := 0) ⟨rfl, rfl⟩ ?_) ?_
      · rintro m2 env' S2 ⟨rfl, rfl⟩
        exact ⟨false, S' ++ [.lst []], EvT.to (et_test (ev_op (ev_call (ea_cons (ev_var rfl) (ea_cons (ev_var rfl) ea_nil)) ⟨p, q, rfl, hp, hq, rfl, rfl⟩) ev_int o_gt)) (decide_eq_false (by omega)), fun h => (by cases h), fun _ => ⟨rfl, rfl⟩⟩
      · rintro env' S2 ⟨rfl, rfl⟩
        exact sp_retC (k := S'.length) rfl get_app (Nat.le_refl _) ⟨rfl, List.take_left ..⟩
    · refine sp_parC (ds := []) (y := .d (prD (1, 0))) (en_lst ea_nil (Nat.zero_le _)) (ev_var rfl) ?_
      refine sp_seq (P' := { nx := fun _ _ => False, rt := fun r S2 => r = .non ∧ S2 = S' })
        (sp_while (fun m env' S2 => ∃ j, j ≤ 63 ∧ m = 63 - j ∧ S2 = S' ++ [.lst (LJ j)] ∧ env' = [some (.d (prD (1, 0))), some (.d (prD (1, 99))), some (.d (.int 63)), some (.c S'.length), some (.d (prD (1, (j : Nat))))]) (m0 := 63) ⟨0, by omega, rfl, rfl, rfl⟩ ?_) ?_
      · rintro m2 env' S2 ⟨j, hj, rfl, rfl, rfl⟩
        have h2 : SmP ((1, (j : Int)) : Int × Int) := ⟨sm_small (i := 1) (by decide), sm_k (by omega)⟩
        have h3 : SmP ((1, 99) : Int × Int) := ⟨sm_small (by decide), sm_c (by decide)⟩
        refine ⟨true, S' ++ [.lst (LJ j)], EvT.to (et_test (ev_op (ev_call (ea_cons (ev_var rfl) (ea_cons (ev_var rfl) ea_nil)) ⟨(1, (j : Int)), (1, 99), rfl, h2, h3, rfl, rfl⟩) ev_int o_gt)) (decide_eq_true (by unfold detF; omega)), fun _ => ?_, fun h => (by cases h)⟩
        by_cases e : j = 63
        · subst e
          exact sp_ifq (b := true) (EvT.to (et_test (ev_op (ev_cb (ea_cons (ev_var rfl) ea_nil) (cd_len (.cell hget))) (ev_var rfl) op2_eq_int)) (by rw [lj_len]; rfl)) (fun _ => sp_retq (sp_ret ev_non ⟨rfl, List.take_left ..⟩)) (fun h => by cases h)
        · refine sp_ifq (b := false) (EvT.to (et_test (ev_op (ev_cb (ea_cons (ev_var rfl) ea_nil) (cd_len (.cell hget))) (ev_var rfl) op2_eq_int)) (by rw [lj_len, decide_eq_false (by omega)])) (fun h => by cases h) fun _ => sp_nextq ?_
          refine sp_set (x := .d (prD (1, ((j + 1 : Nat) : Int)))) (S1 := S' ++ [.lst (LJ j)]) (ev_call (ea_cons (ev_var rfl) (ea_cons (ev_var rfl) ea_nil)) ⟨j, rfl, by omega, rfl, rfl⟩) ?_
          exact sp_drop1 (Ev.toS (ev_append (d := prD (1, ((j + 1 : Nat) : Int))) (ev_var rfl) (ev_var rfl) ⟨_, hget⟩ hget (by rw [lj_len]; exact Nat.lt_of_lt_of_le (show j < 1000 by omega) (by decide))) set_app) ⟨63 - (j + 1), by omega, j + 1, by omega, rfl, by rw [lj_next], rfl⟩
      · rintro env' S2 h
        exact h.elim
end
end N46

set_option Elab.async false
set_option linter.all false
set_option maxRecDepth 100000
set_option maxHeartbeats 4000000
namespace N46
open PySem PySem.Spec PyProof.Rows L2 RW

open PySem.W (dataLe AllAlike Sortable)
def slopeF (z : Int) (p : Int × Int) : Int := if quartF p % 2 = 1 then (z * (-p.1)).fdiv p.2 else (z * p.2).fdiv p.1
def tkOk (p : Int × Int) : Bool := if quartF p % 2 = 1 then decide (p.2 ≠ 0 ∧ p.2.natAbs < 1000) else decide (p.1 ≠ 0 ∧ p.1.natAbs < 1000)
def keyD (z : Int) (p : Int × Int) : Dat := .tup [.tup [.int (quartF p), .int (slopeF z p)], prD p]
def gTK (ss : List Sl) (S : List Dat) (r : Dat) (S' : List Dat) : Prop := ∃ (p : Int × Int) (z : Int), ss = [.d (prD p), .d (.int z)] ∧ SmP p ∧ SmI z ∧ tkOk p = true ∧ r = .tup [.int (quartF p), .int (slopeF z p)] ∧ S' = S
def AX4 : List (Int × Int) := [(1, 0), (0, 1), (-1, 0), (0, -1)]
def AX5 : List (Int × Int) := [(1, 0), (1, 99), (0, 1), (-1, 0), (0, -1)]
def SX4 : List (Int × Int) := [(-1, 0), (0, -1), (0, 1), (1, 0)]
def SX5 : List (Int × Int) := [(-1, 0), (0, -1), (0, 1), (1, 0), (1, 99)]
def absL (X : List (Int × Int)) : List Int := X.flatMap fun p => [(p.1.natAbs : Int), (p.2.natAbs : Int)]
def CASES : List (List (Int × Int) × List (Int × Int) × Int) := [(SX4, AX4, 1), (SX5, AX5, 99)]
def gIT (ss : List Sl) (S : List Dat) (r : Dat) (S' : List Dat) : Prop := ∃ (X Y : List (Int × Int)) (g : Int), ss = [.d (.lst (X.map prD))] ∧ (X, Y, g) ∈ CASES ∧ r = .lst (Y.map prD) ∧ S' = S
theorem cs_ok : ∀ c ∈ CASES, (∃ x xs, absL c.1 = x :: xs) ∧ mxL (absL c.1) = c.2.2 ∧ (∀ p ∈ c.1, p.1.natAbs < 1000 ∧ p.2.natAbs < 1000 ∧ tkOk p = true) ∧ (c.2.2 * c.2.2).natAbs.log2 < 1000 ∧ c.2.2.natAbs < 1000 ∧ c.2.1.Perm c.1 ∧ c.1.length ≤ 5 := by
  unfold CASES
  simp only [List.forall_mem_cons]
  refine ⟨⟨⟨_, _, rfl⟩, by decide +kernel, by decide +kernel, by decide +kernel, by decide +kernel, by decide +kernel, by decide +kernel⟩, ⟨⟨_, _, rfl⟩, by decide +kernel, by decide +kernel, by decide +kernel, by decide +kernel, by decide +kernel, by decide +kernel⟩, fun _ h => by cases h⟩
theorem cs_pw : ∀ c ∈ CASES, (c.2.1.map (keyD (c.2.2 * c.2.2))).Pairwise fun a b => dataLe false py a b = true ∧ dataLe false py b a = false := by
  unfold CASES
  simp only [List.forall_mem_cons]
  refine ⟨by decide +kernel, by decide +kernel, fun _ h => by cases h⟩
theorem key_alike {z : Int} {X : List (Int × Int)} : AllAlike ((X.map (keyD z)).map py) := by
  rw [List.map_map]
  exact PySem.W.AllAlike.of fun b b' => rfl
theorem key_sortable {z : Int} {X : List (Int × Int)} : Sortable ((X.map (keyD z)).map py) := by
  rw [List.map_map]
  exact PySem.W.Sortable.tuples fun b => ⟨_, _, rfl⟩
theorem key_pl {z : Int} {p : Int × Int} : Pl 2 (keyD z p) := .tup fun d hd => by
  simp only [List.mem_cons, List.not_mem_nil, or_false] at hd
  rcases hd with rfl | rfl <;> exact .tup fun d hd => by
    simp only [List.mem_cons, List.not_mem_nil, or_false] at hd
    rcases hd with rfl | rfl <;> exact .int _
theorem flat_abs : ∀ X : List (Int × Int), ((X.map prD).flatMap fun d => (innD d).map fun e => Dat.int ((RW.intD e).natAbs : Nat)) = (absL X).map Dat.int
  | [] => rfl
  | p :: X => by
    have := flat_abs X
    unfold absL at this ⊢
    rw [List.map_cons, List.flatMap_cons, this, List.flatMap_cons, List.map_append]; rfl
section
variable {P : Program} {w : World} {K : PySem.W.Frag} {mg : Str → Option Value} {base : Heap}

theorem ok_turn_key (T : Txt K mg) : FnOk P w K mg base CX0 2 T.a_turn_key T.d_turn_key ["row", "size"] (SpD K (gTK)) := by
  have G_quarter_of := ok_quarter_of (P := P) (w := w) (base := base) T
  have b_quarter_of := T.b_quarter_of
  refine T.F_turn_key.ok sc_turn_key (spd_len (k := 2) fun ss S r S' hg => ?_) (fun cdv A outer s H vs Q E hr h => ⟨_, (pss_cons (ps_asg (pv 0) (pg_tup rfl (pgs_cons (pg_name (i := 2) sc_turn_key.nd rfl (by first | exact Or.inl rfl | exact Or.inr rfl)) (pgs_cons (pg_name (i := 3) sc_turn_key.nd rfl (by first | exact Or.inl rfl | exact Or.inr rfl)) pgs_nil)))) (pss_cons (ps_set (i := 4) sc_turn_key.nd rfl (by first | exact Or.inl rfl | exact Or.inr rfl) (pe_call G_quarter_of (hr.mono (by decide)) rfl T.m_quarter_of T.k_quarter_of b_quarter_of .nil pass0 (pa_cons (pv 0) pa_nil))) (pss_cons (ps_if (pt_cmpR op_eq (pe_op op_mod (pv 4) pe_int) pe_int (nomark _)) (pss_one (ps_par (i := 2) (j := 3) rfl sc_turn_key.nd rfl rfl (by decide) rfl rfl (pa_cons (pv 3) (pa_cons (pe_un un_neg (pv 2)) pa_nil)) (by rfl))) pss_nil) (pss_one (ps_ret (pe_tup (pa_cons (pv 4) (pa_cons (pe_op op_fdivN (pe_op op_mulW (pv 1) (pv 3)) (pv 2)) pa_nil)))))))), sp_body h fun ss S r S' hg => ?_⟩)
  · obtain ⟨p, z, rfl, _⟩ := hg; rfl
  · obtain ⟨p, z, rfl, hp, hz, ht, rfl, rfl⟩ := hg
    obtain ⟨x, y⟩ := p
    refine sp_asg (S1 := S') (d := prD (x, y)) (ev_var rfl) tg_pair ?_
    refine sp_set (x := .d (.int (quartF (x, y)))) (S1 := S') (ev_call (ea_cons (ev_var rfl) ea_nil) ⟨(x, y), rfl, rfl, rfl⟩) ?_
    have hsm : ∀ {i : Int}, SmI i → SmI (-i) := fun {i} h => by unfold SmI at h ⊢; rw [Int.natAbs_neg]; exact h
    by_cases hq : quartF (x, y) % 2 = 1
    · unfold tkOk at ht
      rw [if_pos hq] at ht
      have ht := of_decide_eq_true ht
      refine sp_seq (P' := { nx := fun env' S2 => S2 = S' ∧ env' = [some (.d (prD (x, y))), some (.d (.int z)), some (.d (.int y)), some (.d (.int (-x))), some (.d (.int (quartF (x, y))))] })
        (sp_if (b := true) (EvT.to (et_test (ev_op (ev_op (ev_var rfl) ev_int (o_mod (by decide))) ev_int op2_eq_int)) (decide_eq_true hq)) (fun _ => sp_par1 (ea_cons (ev_var rfl) (ea_cons (ev_un (ev_var rfl) o_neg) ea_nil)) ⟨rfl, rfl⟩) (fun h => by cases h)) ?_
      rintro env' S2 ⟨rfl, rfl⟩
      refine sp_ret (d := .tup [.int (quartF (x, y)), .int (slopeF z (x, y))]) (Ev.to (ev_tup (ds := [.int (quartF (x, y)), .int ((z * -x).fdiv y)]) (ea_cons (ev_var rfl) (ea_cons (ev_op (ev_op (ev_var rfl) (ev_var rfl) (o_mulW (cm_of hz (hsm hp.1)))) (ev_var rfl) (o_fdivN ⟨ht.1, Nat.lt_trans ht.2 (by decide)⟩)) ea_nil)) (szd (Nat.le_of_ble_eq_true rfl))) ?_) ⟨rfl, List.take_length⟩
      unfold slopeF; rw [if_pos hq]
    · unfold tkOk at ht
      rw [if_neg hq] at ht
      have ht := of_decide_eq_true ht
      refine sp_ifq (b := false) (EvT.to (et_test (ev_op (ev_op (ev_var rfl) ev_int (o_mod (by decide))) ev_int op2_eq_int)) (decide_eq_false hq)) (fun h => by cases h) fun _ => sp_nextq ?_
      refine sp_ret (d := .tup [.int (quartF (x, y)), .int (slopeF z (x, y))]) (Ev.to (ev_tup (ds := [.int (quartF (x, y)), .int ((z * y).fdiv x)]) (ea_cons (ev_var rfl) (ea_cons (ev_op (ev_op (ev_var rfl) (ev_var rfl) (o_mulW (cm_of hz hp.2))) (ev_var rfl) (o_fdivN ⟨ht.1, Nat.lt_trans ht.2 (by decide)⟩)) ea_nil)) (szd (Nat.le_of_ble_eq_true rfl))) ?_) ⟨rfl, List.take_length⟩
      unfold slopeF; rw [if_neg hq]
theorem ok_in_turn (T : Txt K mg) : FnOk P w K mg base CX0 3 T.a_in_turn T.d_in_turn ["rows"] (SpD K (gIT)) := by
  have G_turn_key := ok_turn_key (P := P) (w := w) (base := base) T
  have b_turn_key := T.b_turn_key
  refine T.F_in_turn.ok sc_in_turn (spd_len (k := 1) fun ss S r S' hg => ?_) (fun cdv A outer s H vs Q E hr h => ⟨_, (pss_cons (ps_set (i := 1) sc_in_turn.nd rfl (by first | exact Or.inl rfl | exact Or.inr rfl) (pe_maxDf K (Nat.lt_of_le_of_lt (Nat.add_le_add_left (by decide) _) hr.units) rfl T.n_max (pe_lc2 (own := [("row", 2), ("x", 3)]) (vs1 := [3]) rfl sc_in_turn.nd (pi_seqK K (pv 0)) (blkOk_by (own := [("row", 2), ("x", 3)]) (N := ["rows", "greatest", "row", "x", "keyed", "_"]) (sc := (defScope s_in_turn)) (by decide +kernel)) (by decide) (fun _ _ _ _ _ => (pg_name (i := 2) sc_in_turn.nd rfl (by first | exact Or.inl rfl | exact Or.inr rfl))) (fun _ _ _ _ _ => pts_nil) (fun _ _ _ _ _ => (pi_seqK K (pv 2))) (fun _ _ _ _ _ => (pg_name (i := 3) sc_in_turn.nd rfl (by first | exact Or.inl rfl | exact Or.inr rfl))) (fun _ _ _ _ _ => pts_nil) (fun _ _ _ _ _ => (pe_callB call_absD (by rfl) T.n_abs (by decide +kernel) (pa_cons (pv 3) pa_nil)))) pe_int)) (pss_cons (ps_set (i := 4) sc_in_turn.nd rfl (by first | exact Or.inl rfl | exact Or.inr rfl) (pe_callB (cr_sortDat K (Nat.lt_of_le_of_lt (Nat.add_le_add_left (by decide) _) hr.units)) (by rfl) T.n_sorted (by decide +kernel) (pa_cons (pe_lc (own := [("row", 2)]) rfl sc_in_turn.nd (pi_seqK K (pv 0)) (blkOk_by (own := [("row", 2)]) (N := ["rows", "greatest", "row", "x", "keyed", "_"]) (sc := (defScope s_in_turn)) (by decide +kernel)) (fun _ _ _ _ _ => (pg_name (i := 2) sc_in_turn.nd rfl (by first | exact Or.inl rfl | exact Or.inr rfl))) (fun _ _ _ _ _ => pts_nil) (fun _ _ _ _ _ => (pe_tup (pa_cons (pe_call G_turn_key (hr.mono (by decide)) rfl T.m_turn_key T.k_turn_key b_turn_key .nil pass0 (pa_cons (pv 2) (pa_cons (pe_op op_mulW (pv 1) (pv 1)) pa_nil))) (pa_cons (pv 2) pa_nil))))) pa_nil))) (pss_one (ps_ret (pe_lc (own := [("_", 5), ("row", 2)]) (g := gTup K 2 (gCons (gName 5) (gCons (gName 2) gNil))) rfl sc_in_turn.nd (pi_seqK K (pv 4)) (blkOk_by (own := [("_", 5), ("row", 2)]) (N := ["rows", "greatest", "row", "x", "keyed", "_"]) (sc := (defScope s_in_turn)) (by decide +kernel)) (fun _ _ _ _ _ => (pg_tup rfl (pgs_cons (pg_name (i := 5) sc_in_turn.nd rfl (by first | exact Or.inl rfl | exact Or.inr rfl)) (pgs_cons (pg_name (i := 2) sc_in_turn.nd rfl (by first | exact Or.inl rfl | exact Or.inr rfl)) pgs_nil)))) (fun _ _ _ _ _ => pts_nil) (fun _ _ _ _ _ => (pv 2))))))), sp_body h fun ss S r S' hg => ?_⟩)
  · obtain ⟨X, Y, g, rfl, _⟩ := hg; rfl
  · obtain ⟨X, Y, g, rfl, hc, rfl, rfl⟩ := hg
    obtain ⟨⟨x, xs, ea⟩, hmx, hsm, hgg, hg1, hperm, hlen⟩ := cs_ok _ hc
    have hpw := cs_pw _ hc
    simp only at ea hmx hsm hgg hg1 hperm hpw hlen
    have hX : ∀ p ∈ X, SmP p := fun p hp => ⟨sm_c (hsm p hp).1, sm_c (hsm p hp).2.1⟩
    refine sp_set (x := .d (.int g)) (S1 := S') (Ev.to (ev_maxDf (x := x) (xs := xs) (EvN.ev (EvN.toD (en_flat (G := G0) (G1 := G0) (ds := X.map prD) (is := [2]) (is1 := [3]) (it_lst (ev_var rfl)) innD (fun _ e => Dat.int ((RW.intD e).natAbs : Nat)) ?_ (fun _ _ => trivial) (fun _ _ => trivial) (by decide) (by decide) (by decide) (fun d env => env.set 2 (some (.d d))) (fun d e env => env.set 3 (some (.d e))) fun i d hd => ⟨tg_name, ?_, fun j e he => ⟨tg_name, ?_⟩⟩) ((flat_abs X).trans (congrArg (List.map Dat.int) ea)))) .lst) (by rw [← ea, hmx])) ?_
    · rw [flat_abs, List.length_map, ea]
      have h1 : (absL X).length = 2 * X.length := by
        clear ea hmx hsm hgg hperm hpw hlen hX hc
        induction X with
        | nil => rfl
        | cons p X ih =>
          unfold absL at ih ⊢
          rw [List.flatMap_cons, List.length_append, ih, show (p :: X).length = X.length + 1 from rfl]
          show 2 + 2 * X.length = 2 * (X.length + 1)
          omega
      rw [ea] at h1
      exact size_1000 (by omega)
    · rw [List.getElem?_map, Option.map_eq_some_iff] at hd
      obtain ⟨p, _, rfl⟩ := hd
      exact it_tup (ev_var rfl)
    · rw [List.getElem?_map, Option.map_eq_some_iff] at hd
      obtain ⟨p, _, rfl⟩ := hd
      have : ∃ k, e = .int k := by
        have := List.mem_of_getElem? he
        simp only [innD, List.mem_cons, List.not_mem_nil, or_false] at this
        rcases this with rfl | rfl <;> exact ⟨_, rfl⟩
      obtain ⟨k, rfl⟩ := this
      exact ev_cb (ea_cons (ev_var rfl) ea_nil) cd_abs
    refine sp_set (x := .d (.lst (Y.map (keyD (g * g))))) (S1 := S') (EvN.ev (en_sortDat (m := 2) (EvN.ev (en_mapA (xs := X) (g := prD) (is := [2]) (keyD (g * g)) (it_lst (ev_var rfl)) (size_1000 (by omega)) (fun _ _ => trivial) (by decide) (fun p env => env.set 2 (some (.d (prD p)))) fun p hp => ⟨tg_name, ev_tup (ds := [.tup [.int (quartF p), .int (slopeF (g * g) p)], prD p]) (ea_cons (ev_call (ea_cons (ev_var rfl) (ea_cons (ev_op (ev_var rfl) (ev_var rfl) (o_mulW (cm_of (sm_c hg1) (sm_c hg1)))) ea_nil)) ⟨p, g * g, rfl, hX p hp, hgg, (hsm p hp).2.2, rfl, rfl⟩) (ea_cons (ev_var rfl) ea_nil)) (szd (Nat.le_of_ble_eq_true rfl))⟩)) .lst (fun d hd => ?_) (by decide) key_alike key_sortable (size_1000 (by rw [List.length_map]; omega)) (sort_is (hperm.map _) hpw))) ?_
    · obtain ⟨p, _, rfl⟩ := List.mem_map.mp hd
      exact key_pl
    exact sp_ret (EvN.ev (en_mapA (xs := Y) (g := keyD (g * g)) (is := [5, 2]) prD (it_lst (ev_var rfl)) (size_1000 (by rw [hperm.length_eq]; omega)) (fun _ _ => trivial) (by decide) (fun p env => (env.set 5 (some (.d (.tup [.int (quartF p), .int (slopeF (g * g) p)])))).set 2 (some (.d (prD p)))) fun p hp => ⟨tg_pair, ev_var rfl⟩)) ⟨rfl, List.take_length⟩
end
def gSm (ss : List Sl) (S : List Dat) (r : Dat) (S' : List Dat) : Prop := ((ss = [.d (.lst (AX4.map prD)), .d (.int 64)] ∧ r = .lst (AX4.map prD)) ∨ (ss = [.d (.lst (AX5.map prD)), .d (.int 64)] ∧ r = .non)) ∧ S' = S
def rotP (X : List (Int × Int)) : List (Int × Int) := X.tail ++ X.take 1
theorem z4_ok : ∀ z ∈ AX4.zip (rotP AX4), z.1.1.natAbs < 1000 ∧ z.1.2.natAbs < 1000 ∧ z.2.1.natAbs < 1000 ∧ z.2.2.natAbs < 1000 ∧ detF z.1 z.2 ≤ 1 := by decide +kernel
section
variable {P : Program} {w : World} {K : PySem.W.Frag} {mg : Str → Option Value} {base : Heap}

theorem ok_smoothed (T : Txt K mg) : FnOk P w K mg base CX0 4 T.a_smoothed T.d_smoothed ["rays", "most"] (SpD K (gSm)) := by
  have G_rays_between := ok_rays_between (P := P) (w := w) (base := base) T
  have b_rays_between := T.b_rays_between
  refine T.F_smoothed.ok sc_smoothed (spd_len (k := 2) fun ss S r S' hg => ?_) (fun cdv A outer s H vs Q E hr h => ⟨_, (pss_cons (ps_set (i := 2) sc_smoothed.nd rfl (by first | exact Or.inl rfl | exact Or.inr rfl) (pe_lst pa_nil)) (pss_cons (ps_for PassesOwn.never rfl (pi_zipGK K (by rfl) T.n_zip (pa_cons (pv 0) (pa_cons (pe_op op_cat (pe_slice (sl_listK K) (pv 0) (po_some pe_int) po_none) (pe_slice (sl_listK K) (pv 0) po_none (po_some pe_int))) pa_nil))) (pg_tup rfl (pgs_cons (pg_name (i := 3) sc_smoothed.nd rfl (by first | exact Or.inl rfl | exact Or.inr rfl)) (pgs_cons (pg_name (i := 4) sc_smoothed.nd rfl (by first | exact Or.inl rfl | exact Or.inr rfl)) pgs_nil))) (pss_cons (ps_expr (pe_bm PySem.F.plainAttrs_list PySem.F.slot_list_append PySem.F.type_list_append mt_append (pv 2) (pa_cons (pv 3) pa_nil))) (pss_cons (ps_set (i := 5) sc_smoothed.nd rfl (by first | exact Or.inl rfl | exact Or.inr rfl) (pe_call G_rays_between (hr.mono (by decide)) rfl T.m_rays_between T.k_rays_between b_rays_between .nil pass0 (pa_cons (pv 3) (pa_cons (pv 4) (pa_cons (pe_callB (call_max2D rfl) (by rfl) T.n_max (by decide +kernel) (pa_cons pe_int (pa_cons (pe_op op_sub (pv 1) (pe_callB (call_lenK K) (by rfl) T.n_len (by decide +kernel) (pa_cons (pv 2) pa_nil))) pa_nil))) pa_nil))))) (pss_cons (ps_if (pt_cmpR op_isN (pv 5) pe_non (nomark _)) (pss_one (ps_ret pe_non)) pss_nil) (pss_one (ps_expr (pe_bm PySem.F.plainAttrs_list PySem.F.slot_list_extend PySem.F.type_list_extend mt_extend (pv 2) (pa_cons (pv 5) pa_nil)))))))) (pss_one (ps_ret (pe_ifExp (pt_cmpR op_gt (pe_callB (call_lenK K) (by rfl) T.n_len (by decide +kernel) (pa_cons (pv 2) pa_nil)) (pv 1) (nomark _)) pe_non (pv 2)))))), sp_body h fun ss S r S' hg => ?_⟩)
  · obtain ⟨⟨rfl, _⟩ | ⟨rfl, _⟩, _⟩ := hg <;> rfl
  · obtain ⟨hc, rfl⟩ := hg
    have hget : ∀ {xs : List Dat}, (S' ++ [Dat.lst xs])[S'.length]? = some (.lst xs) := fun {xs} => get_app
    have hit : ∀ (X : List (Int × Int)), X.length ≤ 5 → ∀ {S : List Dat} {env : Env1}, env[0]? = some (some (.d (.lst (X.map prD)))) → IterD K (iZipG K (tCons (tVar 0) (tCons (tOp rCat (tSl (rSlL K) (tVar 0) (tPart (tC (.int 1))) tNoPart) (tSl (rSlL K) (tVar 0) tNoPart (tPart (tC (.int 1))))) tNil))) env S G0 ((X.zip (rotP X)).map fun z => Dat.tup [prD z.1, prD z.2]) S := fun X hl S env he => by
      refine it_zipA (x := .lst (X.map prD)) (y := .lst ((rotP X).map prD)) (ea_cons (ev_var he) (ea_cons (Ev.to (EvN.ev (en_cat (EvN.ev (en_slL (ev_var he) (eo_some ev_int) eo_none .lst)) (EvN.ev (en_slL (ev_var he) eo_none (eo_some ev_int) .lst)) .lst .lst ?_)) ?_) ea_nil)) .lst .lst
      · rw [cut1, cutT1, List.length_drop, List.length_take, List.length_map]
        exact size_1000 (by omega)
      · rw [cut1, cutT1, ← List.map_drop, ← List.map_take, drop1, ← List.map_append]; rfl
    rcases hc with ⟨rfl, rfl⟩ | ⟨rfl, rfl⟩
    · refine sp_setC (S1 := S') (ds := []) (en_lst ea_nil (Nat.zero_le _)) ?_
      refine sp_seq (P' := { nx := fun env' S2 => S2 = S' ++ [.lst (AX4.map prD)] ∧ ∃ o1 o2 o3, env' = [some (.d (.lst (AX4.map prD))), some (.d (.int 64)), some (.c S'.length), o1, o2, o3] })
        (sp_forA (xs := AX4.zip (rotP AX4)) (g := fun z => Dat.tup [prD z.1, prD z.2]) (hit AX4 (by decide) rfl) (fun i env' S2 => S2 = S' ++ [.lst ((AX4.take i).map prD)] ∧ ∃ o1 o2 o3, env' = [some (.d (.lst (AX4.map prD))), some (.d (.int 64)), some (.c S'.length), o1, o2, o3]) ⟨rfl, none, none, none, rfl⟩ (fun _ _ _ _ _ _ _ _ _ => trivial) ?_ ?_) ?_
      · rintro i z env' S2 hz ⟨rfl, o1, o2, o3, rfl⟩
        refine ⟨[3, 4], fun env => (env.set 3 (some (.d (prD z.1)))).set 4 (some (.d (prD z.2))), tg_pair, ?_⟩
        have hm := List.mem_of_getElem? hz
        have hz4 := z4_ok z hm
        obtain ⟨h1, h2⟩ := List.getElem?_zip_eq_some.mp hz
        obtain ⟨hl, e1⟩ := List.getElem?_eq_some_iff.mp h1
        have hl4 : i < 4 := hl
        refine sp_drop (Ev.toS (ev_append (d := prD z.1) (ev_var rfl) (ev_var rfl) ⟨_, hget⟩ hget (by rw [List.length_map, List.length_take]; exact Nat.lt_of_lt_of_le (show min i AX4.length < 1000 by omega) (by decide))) set_app) ?_
        have en : (AX4.take i).map prD ++ [prD z.1] = (AX4.take (i + 1)).map prD := by
          rw [List.take_succ_eq_append_getElem hl, e1, List.map_append]; rfl
        rw [en]
        refine sp_set (x := .d (.lst [])) (S1 := S' ++ [.lst ((AX4.take (i + 1)).map prD)]) (ev_call (ea_cons (ev_var rfl) (ea_cons (ev_var rfl) (ea_cons (ev_cb (ea_cons ev_int (ea_cons (ev_op (ev_var rfl) (ev_cb (ea_cons (ev_var rfl) ea_nil) (cd_len (.cell hget))) o_sub) ea_nil)) cd_max2) ea_nil))) ⟨.inl ⟨z.1, z.2, _, rfl, ⟨sm_c hz4.1, sm_c hz4.2.1⟩, ⟨sm_c hz4.2.2.1, sm_c hz4.2.2.2.1⟩, hz4.2.2.2.2, rfl⟩, rfl⟩) ?_
        refine sp_ifq (b := false) (S1 := S' ++ [.lst ((AX4.take (i + 1)).map prD)]) (et_test (ev_op (ev_var rfl) ev_non o_isNL)) (fun h => by cases h) fun _ => sp_nextq ?_
        exact sp_drop1 (Ev.toS (ev_extend (es := []) (ev_var rfl) (ev_var rfl) ⟨_, hget⟩ hget (by rw [List.length_map, List.length_take]; exact size_1000 (show min (i + 1) AX4.length + 0 ≤ 1000 by omega))) (by rw [List.append_nil]; exact set_app)) ⟨rfl, _, _, _, rfl⟩
      · rintro env' S2 ⟨rfl, o1, o2, o3, rfl⟩
        exact ⟨rfl, _, _, _, rfl⟩
      · rintro env' S2 ⟨rfl, o1, o2, o3, rfl⟩
        exact sp_retIfC (EvT.to (et_test (ev_op (ev_cb (ea_cons (ev_var rfl) ea_nil) (cd_len (.cell hget))) (ev_var rfl) o_gt)) rfl) (sp_retC (k := S'.length) rfl get_app (Nat.le_refl _) ⟨rfl, List.take_left ..⟩)
    · refine sp_setC (S1 := S') (ds := []) (en_lst ea_nil (Nat.zero_le _)) ?_
      refine sp_seq (P' := { nx := fun _ _ => False, rt := fun r S2 => r = .non ∧ S2 = S' })
        (sp_forA (xs := AX5.zip (rotP AX5)) (g := fun z => Dat.tup [prD z.1, prD z.2]) (hit AX5 (by decide) rfl) (fun i env' S2 => i = 0 ∧ S2 = S' ++ [.lst []] ∧ env' = [some (.d (.lst (AX5.map prD))), some (.d (.int 64)), some (.c S'.length), none, none, none]) ⟨rfl, rfl, rfl⟩ (fun _ _ _ _ _ _ _ _ _ => trivial) ?_ ?_) ?_
      · rintro i z env' S2 hz ⟨rfl, rfl, rfl⟩
        refine ⟨[3, 4], fun env => (env.set 3 (some (.d (prD z.1)))).set 4 (some (.d (prD z.2))), tg_pair, ?_⟩
        cases hz
        refine sp_drop (Ev.toS (ev_append (d := prD (1, 0)) (ev_var rfl) (ev_var rfl) ⟨_, hget⟩ hget (by decide)) set_app) ?_
        refine sp_set (x := .d .non) (S1 := S' ++ [.lst [prD (1, 0)]]) (ev_call (ea_cons (ev_var rfl) (ea_cons (ev_var rfl) (ea_cons (ev_cb (ea_cons ev_int (ea_cons (ev_op (ev_var rfl) (ev_cb (ea_cons (ev_var rfl) ea_nil) (cd_len (.cell hget))) o_sub) ea_nil)) cd_max2) ea_nil))) ⟨.inr ⟨rfl, rfl⟩, rfl⟩) ?_
        exact sp_ifq (b := true) (S1 := S' ++ [.lst [prD (1, 0)]]) (et_test (ev_op (ev_var rfl) ev_non o_isNN)) (fun _ => sp_retq (sp_ret ev_non ⟨rfl, List.take_left ..⟩)) (fun h => by cases h)
      · rintro env' S2 ⟨h, _⟩
        cases h
      · rintro env' S2 h
        exact h.elim
end
end N46

set_option Elab.async false
set_option linter.all false
set_option maxRecDepth 100000
set_option maxHeartbeats 4000000
namespace N46
open PySem PySem.Spec PyProof.Rows L2 RW

abbrev R99 : Dat := .tup [prD (1, 99)]
abbrev TWICE : Dat := .tup [prD (1, 0), prD (1, 0)]
abbrev AXESD : Dat := .tup [.tup [.int 1, .int 0], .tup [.int 0, .int 1], .tup [.int (-1), .int 0], .tup [.int 0, .int (-1)]]
def fanBadB : Dat → Bool
  | .tup xs => decide (64 < xs.length) || !xs.all okRay
  | _ => true
def gSF (CO CT : Addr) (ss : List Sl) (S : List Dat) (o : Out) (S' : List Dat) : Prop := ∃ d : Dat, ss = [.d d] ∧ KD d ∧ ((fanBadB d = true ∧ o = .exc CO none) ∨ (d = TWICE ∧ o = .exc CO none) ∨ (d = .tup [] ∧ o = .val AXESD) ∨ (d = R99 ∧ o = .exc CT (some ("limit", .int 64)))) ∧ S' = S
abbrev rwP (p : Int × Int) : List Int := [p.1, p.2]
theorem srt4 : sortF (uniq (AX4.map rwP)) = SX4.map rwP := (sortF_uniq (n := 2) (by decide +kernel) _ (by decide +kernel) (by decide +kernel)).symm
theorem srt5 : sortF (uniq (((1, 99) :: AX4).map rwP)) = SX5.map rwP := (sortF_uniq (n := 2) (by decide +kernel) _ (by decide +kernel) (by decide +kernel)).symm
section
variable {P : Program} {w : World} {K : PySem.W.Frag} {mg : Str → Option Value} {base : Heap}

theorem ok_smooth_fan (T : Txt K mg) : FnOk P w K mg base (L2.CX P w) 5 T.a_smooth_fan T.d_smooth_fan ["rays"] (SpR K (gSF T.a_InvalidOperation T.a_TooMany)) := by
  have G_is_short_row := ok_is_short_row (P := P) (w := w) (base := base) T
  have b_is_short_row := T.b_is_short_row
  have G_is_ray := ok_is_ray (P := P) (w := w) (base := base) T
  have b_is_ray := T.b_is_ray
  have G_smoothed := ok_smoothed (P := P) (w := w) (base := base) T
  have b_smoothed := T.b_smoothed
  have G_in_turn := ok_in_turn (P := P) (w := w) (base := base) T
  have b_in_turn := T.b_in_turn
  have G_TooManyu_initu := ok_TooManyu_initu (P := P) (w := w) (base := base) T
  have b_TooManyu_initu := T.b_TooManyu_initu
  refine T.F_smooth_fan.okX sc_smooth_fan (spr_len (k := 1) fun ss S o S' hg => ?_) (fun cdv A outer s H vs Q E hr h => ⟨_, (pss_cons (ps_if (PW.pt (pw_or (pt_not (pt_truK K (pe_callB call_isi (by rfl) T.n_isinstance (by decide +kernel) (pa_cons (pv 0) (pa_cons (pe_bltn (v := .ty "tuple") (by rfl) T.n_tuple (by decide +kernel) rfl) pa_nil))))) (pw_or1 (pt_cmpR op_gt (pe_callB (call_lenK K) (by rfl) T.n_len (by decide +kernel) (pa_cons (pv 0) pa_nil)) (pe_glob (v := .int 64) rfl T.m_MOST_RAYS ⟨_, rfl⟩) (nomark _))))) (pss_one (ps_raise rfl (takes_of rfl rfl rfl rfl) (pmk_own PySem.F.excBase_ValueError T.x_InvalidOperation T.m_InvalidOperation T.k_InvalidOperation (raises_own T.be_InvalidOperation T.ty_InvalidOperation) (by exact rfl)))) pss_nil) (pss_cons (ps_for (passes_of rfl) rfl (pi_seqK K (pv 0)) (pg_name (i := 1) sc_smooth_fan.nd rfl (by first | exact Or.inl rfl | exact Or.inr rfl)) (pss_one (ps_if (PW.pt (pw_or (pt_not (pt_truK K (pe_call G_is_short_row (hr.mono (by decide)) rfl T.m_is_short_row T.k_is_short_row b_is_short_row .nil pass0 (pa_cons (pv 1) (pa_cons pe_int (pa_cons pe_int pa_nil)))))) (pw_or1 (pt_not (pt_truK K (pe_call G_is_ray (hr.mono (by decide)) rfl T.m_is_ray T.k_is_ray b_is_ray .nil pass0 (pa_cons (pv 1) pa_nil))))))) (pss_one (ps_raise rfl (takes_of rfl rfl rfl rfl) (pmk_own PySem.F.excBase_ValueError T.x_InvalidOperation T.m_InvalidOperation T.k_InvalidOperation (raises_own T.be_InvalidOperation T.ty_InvalidOperation) (by exact rfl)))) pss_nil))) (pss_cons (ps_if (pt_cmpR op_lt (RwZs.pe_lenSetT K P w rfl (Nat.lt_of_le_of_lt (Nat.add_le_add_left (by decide) _) hr.units) rfl T.n_len rfl T.n_set (pv 0)) (pe_callB (call_lenK K) (by rfl) T.n_len (by decide +kernel) (pa_cons (pv 0) pa_nil)) (nomark _)) (pss_one (ps_raise rfl (takes_of rfl rfl rfl rfl) (pmk_own PySem.F.excBase_ValueError T.x_InvalidOperation T.m_InvalidOperation T.k_InvalidOperation (raises_own T.be_InvalidOperation T.ty_InvalidOperation) (by exact rfl)))) pss_nil) (pss_cons (ps_set (i := 2) sc_smooth_fan.nd rfl (by first | exact Or.inl rfl | exact Or.inr rfl) (pe_call G_smoothed (hr.mono (by decide)) rfl T.m_smoothed T.k_smoothed b_smoothed .nil pass0 (pa_cons (pe_call G_in_turn (hr.mono (by decide)) rfl T.m_in_turn T.k_in_turn b_in_turn .nil pass0 (pa_cons (RwZs.pe_sortSetT K P w rfl (Nat.lt_of_le_of_lt (Nat.add_le_add_left (by decide) _) hr.units) rfl T.n_sorted rfl T.n_set (pe_op op_catA (pv 0) (pe_glob (v := .ref T.a_AXES) rfl T.m_AXES rfl))) pa_nil)) (pa_cons (pe_glob (v := .int 64) rfl T.m_MOST_RAYS ⟨_, rfl⟩) pa_nil)))) (pss_cons (ps_if (pt_cmpR op_isN (pv 2) pe_non (nomark _)) (pss_one (ps_raise rfl (takes_of rfl rfl rfl rfl) (pmk_xi T.ox_TooMany T.oi_TooMany T.ot_TooMany G_TooManyu_initu (hr.mono (by decide)) b_TooManyu_initu pass0 rfl T.m_TooMany (pa_cons (pe_glob (v := .int 64) rfl T.m_MOST_RAYS ⟨_, rfl⟩) pa_nil)))) pss_nil) (pss_one (ps_ret (pe_callTy (call_tupK K rfl) (by rfl) T.n_tuple (by decide +kernel) (pa_cons (pv 2) pa_nil))))))))), sp_bodyR h fun ss S o S' hg => ?_⟩)
  · obtain ⟨d, rfl, _⟩ := hg; rfl
  · obtain ⟨d, rfl, hd, ho, rfl⟩ := hg
    have hT : EvT K _ [some (.d d), none, none] S' (!isTupD d) S' := et_not (et_bl (ev_cb (ea_cons (ev_var (i := 0) rfl) (ea_cons ev_ty ea_nil)) (ck_tup hd)))
    -- a step of the walk over the rays
    have step : ∀ {xs : List Dat} {x : Dat} {o1 : Option Sl} {o2 : Option Sl}, x ∈ xs → (∀ x ∈ xs, KD x) → EvT K _ [some (.d (.tup xs)), some (.d x), o2] S' (!srB x 2 2 || !rayB x) S' := fun {xs x o1 o2} hx hk =>
      et_orP (et_not (et_bl (ev_call (G := gSRow) (E := E0) (ea_cons (ev_var (i := 1) rfl) (ea_cons (ev_int (i := 2)) (ea_cons (ev_int (i := 2)) ea_nil))) ⟨x, 2, 2, rfl, hk x hx, rfl, rfl⟩))) fun _ => et_not (et_bl (ev_call (G := gRay) (E := E0) (ea_cons (ev_var (i := 1) rfl) ea_nil) ⟨x, rfl, hk x hx, rfl, rfl⟩))
    have eb : ∀ x : Dat, (!srB x 2 2 || !rayB x) = !okRay x := fun x => by unfold okRay; rw [Bool.not_and]
    rcases ho with ⟨hb, rfl⟩ | hgood
    · cases ht : isTupD d with
      | false =>
        rw [ht] at hT
        exact sp_ifq (b := true) (et_orP (a := true) (b := false) hT fun h => by cases h) (fun _ => sp_raise0q (E := E) (C := T.a_InvalidOperation) (by show XOk K E _ S' = _; rw [List.take_length])) (fun h => by cases h)
      | true =>
        rw [ht] at hT
        obtain ⟨xs, rfl⟩ := tup_of ht
        have hk := kd_inn hd
        refine sp_ifq (b := decide (((xs.length : Nat) : Int) > 64)) (et_orP (a := false) hT fun _ => et_test (ev_op (ev_cb (ea_cons (ev_var rfl) ea_nil) (cd_len .tup)) ev_int o_gt)) (fun _ => sp_raise0q (E := E) (C := T.a_InvalidOperation) (by show XOk K E _ S' = _; rw [List.take_length])) fun h64 => sp_nextq ?_
        have hl : ¬ 64 < xs.length := by have := of_decide_eq_false h64; omega
        have hno : xs.all okRay = false := by
          have : (decide (64 < xs.length) || !xs.all okRay) = true := hb
          rw [decide_eq_false hl, Bool.false_or] at this
          simpa using this
        refine sp_seq (P' := { nx := fun _ _ => False })
          (sp_forA (xs := xs) (g := id) (it_tup (Ev.to (ev_var rfl) (by rw [List.map_id]))) (fun i env' S2 => S2 = S' ∧ (xs.take i).all okRay = true ∧ ∃ o1, env' = [some (.d (.tup xs)), o1, none]) ⟨rfl, rfl, none, rfl⟩ (fun _ _ _ _ _ _ _ _ _ => trivial) ?_ ?_) fun _ _ h => h.elim
        · rintro i x env' S2 hx ⟨rfl, ha, o1, rfl⟩
          refine ⟨[1], fun env => env.set 1 (some (.d x)), tg_name, ?_⟩
          have hS := step (xs := xs) (o1 := o1) (o2 := none) (List.mem_of_getElem? hx) hk
          rw [eb] at hS
          obtain ⟨hlx, ex⟩ := List.getElem?_eq_some_iff.mp hx
          refine sp_if (b := !okRay x) hS (fun _ => sp_raise0 (E := E) (C := T.a_InvalidOperation) (by show XOk K E _ S2 = _; rw [List.take_length])) fun h => sp_next ⟨rfl, ?_, _, rfl⟩
          have h : okRay x = true := by simpa using h
          rw [List.take_succ_eq_append_getElem hlx, ex, List.all_append, ha]
          simp [h]
        · rintro env' S2 ⟨rfl, ha, o1, rfl⟩
          rw [List.take_length, hno] at ha
          cases ha
    -- the rays are rays
    · have hx : ∃ L : List (Int × Int), d = .tup (L.map prD) ∧ L.length ≤ 2 ∧ (∀ p ∈ L, okRay (prD p) = true) ∧ ((L = [(1, 0), (1, 0)] ∧ o = .exc T.a_InvalidOperation none) ∨ (L = [] ∧ o = .val AXESD) ∨ (L = [(1, 99)] ∧ o = .exc T.a_TooMany (some ("limit", .int 64)))) := by
        rcases hgood with ⟨rfl, ho⟩ | ⟨rfl, ho⟩ | ⟨rfl, ho⟩
        · exact ⟨[(1, 0), (1, 0)], rfl, by decide, by decide +kernel, .inl ⟨rfl, ho⟩⟩
        · exact ⟨[], rfl, by decide, by decide +kernel, .inr (.inl ⟨rfl, ho⟩)⟩
        · exact ⟨[(1, 99)], rfl, by decide, by decide +kernel, .inr (.inr ⟨rfl, ho⟩)⟩
      clear hgood
      obtain ⟨L, rfl, hL, hok, hgood⟩ := hx
      have hk := kd_inn hd
      have e64 : decide ((((L.map prD).length : Nat) : Int) > 64) = false := by rw [List.length_map]; exact decide_eq_false (by omega)
      refine sp_ifq (b := false) (et_orP (a := false) hT fun _ => EvT.to (et_test (ev_op (ev_cb (ea_cons (ev_var rfl) ea_nil) (cd_len .tup)) ev_int o_gt)) e64) (fun h => by cases h) fun _ => sp_nextq ?_
      refine sp_seq (P' := { nx := fun env' S2 => S2 = S' ∧ ∃ o1, env' = [some (.d (.tup (L.map prD))), o1, none] })
        (sp_forA (xs := L) (g := prD) (it_tup (ev_var rfl)) (fun i env' S2 => S2 = S' ∧ ∃ o1, env' = [some (.d (.tup (L.map prD))), o1, none]) ⟨rfl, none, rfl⟩ (fun _ _ _ _ _ _ _ _ _ => trivial) ?_ ?_) ?_
      · rintro i p env' S2 hp ⟨rfl, o1, rfl⟩
        refine ⟨[1], fun env => env.set 1 (some (.d (prD p))), tg_name, ?_⟩
        have hm := List.mem_of_getElem? hp
        have hS := step (xs := L.map prD) (o1 := o1) (o2 := none) (List.mem_map.mpr ⟨p, hm, rfl⟩) hk
        rw [eb, hok p hm] at hS
        exact sp_if (b := false) hS (fun h => by cases h) fun _ => sp_next ⟨rfl, _, rfl⟩
      · rintro env' S2 ⟨rfl, o1, rfl⟩
        exact ⟨rfl, o1, rfl⟩
      · rintro env' S2 ⟨rfl, o1, rfl⟩
        have erw : ∀ M : List (Int × Int), M.map prD = (M.map rwP).map rwD := fun M => by rw [List.map_map]; rfl
        have hlen := ev_lenSet (P := P) (w := w) (K := K) (env := [some (.d (.tup (L.map prD))), o1, none]) (S := S2) (rows := L.map rwP) (Ev.to (ev_var (i := 0) rfl) (by rw [erw])) (by rw [List.length_map]; omega)
        have hcm := et_test (ev_op hlen (ev_cb (ea_cons (ev_var (i := 0) rfl) ea_nil) (cd_len .tup)) o_lt)
        rcases hgood with ⟨rfl, rfl⟩ | ⟨rfl, rfl⟩ | ⟨rfl, rfl⟩
        · exact sp_ifq (b := true) (EvT.to hcm (by decide +kernel)) (fun _ => sp_raise0q (E := E) (C := T.a_InvalidOperation) (by show XOk K E _ S2 = _; rw [List.take_length])) (fun h => by cases h)
        · refine sp_ifq (b := false) (EvT.to hcm (by decide +kernel)) (fun h => by cases h) fun _ => sp_nextq ?_
          refine sp_set (x := .d (.lst (AX4.map prD))) (S1 := S2) (ev_call (G := gSm) (ea_cons (ev_call (G := gIT) (ea_cons (Ev.to (EvN.ev (en_sortSet (d := 2) (rows := AX4.map rwP) (Ev.to (ev_op (ev_var rfl) (ev_cst T.e_AXES) (op2_catT (szd (by decide)))) rfl) (by decide) (by decide) (by decide +kernel) srt4)) rfl) ea_nil) ⟨SX4, AX4, 1, rfl, List.mem_cons_self, rfl, rfl⟩) (ea_cons ev_int ea_nil)) ⟨.inl ⟨rfl, rfl⟩, rfl⟩) ?_
          refine sp_ifq (b := false) (S1 := S2) (et_test (ev_op (ev_var rfl) ev_non o_isNL)) (fun h => by cases h) fun _ => sp_nextq ?_
          exact sp_ret (d := AXESD) (ev_cb (ea_cons (ev_var rfl) ea_nil) (cd_tup .lst)) ⟨rfl, List.take_length⟩
        · refine sp_ifq (b := false) (EvT.to hcm (by decide +kernel)) (fun h => by cases h) fun _ => sp_nextq ?_
          refine sp_set (x := .d .non) (S1 := S2) (ev_call (G := gSm) (ea_cons (ev_call (G := gIT) (ea_cons (Ev.to (EvN.ev (en_sortSet (d := 2) (rows := ((1, 99) :: AX4).map rwP) (Ev.to (ev_op (ev_var rfl) (ev_cst T.e_AXES) (op2_catT (szd (by decide)))) rfl) (by decide) (by decide) (by decide +kernel) srt5)) rfl) ea_nil) ⟨SX5, AX5, 99, rfl, List.mem_cons_of_mem _ List.mem_cons_self, rfl, rfl⟩) (ea_cons ev_int ea_nil)) ⟨.inr ⟨rfl, rfl⟩, rfl⟩) ?_
          exact sp_ifq (b := true) (S1 := S2) (et_test (ev_op (ev_var rfl) ev_non o_isNN)) (fun _ => sp_raiseGq (E := E) (ea_cons ev_int ea_nil) T.ox_TooMany T.nf_TooMany (by show XOk K E _ S2 = _; rw [List.take_length])) (fun h => by cases h)
end
end N46

set_option Elab.async false
set_option linter.all false
set_option maxRecDepth 100000
set_option maxHeartbeats 4000000
namespace N46
open PySem PySem.Spec PyProof.Rows L2 RW

/-! what is drawn from: the start, a number, one of several (made from wip/tools/Vd.txt) -/
def cellF (ns : List Int) (i : Nat) : Int := if i < ns.length then ns.getD i 0 else 191 * (i : Nat) + 47
def big : Int := (10 ^ (59 : Int).toNat) ^ (6 : Int).toNat
theorem big_pos : 0 < big := by unfold big; decide +kernel
def greatF (ns : List Int) (i : Nat) : Int := ((cellF ns i).natAbs : Int) % big
def seedF (ns : List Int) (i : Nat) : Int := greatF ns i % 2147483549 * 149 + 593 * (i : Nat) + 43 * b2i (decide (cellF ns i < 0)) + 11
def vatF (ns : List Int) (i : Nat) : Vt := (max 0 (greatF ns i - 10 ^ (16 : Int).toNat), seedF ns i, 0)
def oneF (v : Vt) : Int := (v.2.1 + 15486277 * (v.2.2 + 1)) % 2305843009213693951
def twoF (v : Vt) : Int := (oneF v * oneF v + 101 * (v.2.2 + 1)) % 2305843009213693921 * 7369597 + oneF v
def drawF (v : Vt) (t : Int) : Int × Vt := if 0 < v.1 then (v.1 % t, (v.1 / t, v.2.1, v.2.2)) else (twoF v / 65539 % t, (v.1, v.2.1, v.2.2 + 1))
theorem draw_nn (v : Vt) {t : Int} (h : 0 < t) : 0 ≤ (drawF v t).1 := by
  unfold drawF; split <;> exact Int.emod_nonneg _ (by omega)
theorem draw_lt (v : Vt) {t : Int} (h : 0 < t) : (drawF v t).1 < t := by
  unfold drawF; split <;> exact Int.emod_lt_of_pos _ h
def gDrawF (ss : List Sl) (S : List Dat) (r : Dat) (S' : List Dat) : Prop := ∃ (k : Nat) (v : Vt) (t : Int), ss = [.c k, .d (.int t)] ∧ S[k]? = some (vatD v) ∧ 0 < t ∧ t < 2 ^ 100 ∧ r = .int (drawF v t).1 ∧ S' = S.set k (vatD (drawF v t).2)
def pickF (ds : List Dat) (v : Vt) : Dat := ds.getD (drawF v ds.length).1.toNat .non
def gPickF (ss : List Sl) (S : List Dat) (r : Dat) (S' : List Dat) : Prop := ∃ (k : Nat) (v : Vt) (d : Dat) (ds : List Dat), ss = [.c k, .d d] ∧ (d = .lst ds ∨ d = .tup ds) ∧ S[k]? = some (vatD v) ∧ ds ≠ [] ∧ ds.length ≤ 100000 ∧ r = pickF ds v ∧ S' = S.set k (vatD (drawF v ds.length).2)
def dueD (s : Str) : Dat := if s = "fine" then .tup [.str "fine"] else .tup [.str "raised", .str s]
def gDue (ss : List Sl) (S : List Dat) (r : Dat) (S' : List Dat) : Prop := ∃ ws : List Str, ss = [.d (.lst (ws.map Dat.str))] ∧ ws.length ≤ 1000 ∧ r = .lst (ws.map dueD) ∧ S' = S
theorem pick_lt {ds : List Dat} {v : Vt} (hne : ds ≠ []) : (drawF v ds.length).1.toNat < ds.length := by
  have hp : 0 < (ds.length : Int) := by have := List.length_pos_iff.mpr hne; omega
  have h1 := draw_nn v hp
  have h2 := draw_lt v hp
  omega
theorem pick_mem {ds : List Dat} {v : Vt} (hne : ds ≠ []) : pickF ds v ∈ ds := by
  unfold pickF
  rw [List.getD_eq_getElem?_getD, List.getElem?_eq_getElem (pick_lt hne)]
  exact List.getElem_mem _
section
variable {P : Program} {w : World} {K : PySem.W.Frag} {mg : Str → Option Value} {base : Heap}

theorem ok__law_pack (T : Txt K mg) : FnOk P w K mg base CX0 1 T.a__law_pack T.d__law_pack ["script", "spot"] (SpN K (fun ss S r S' => gVat ss S r S' vatF)) := by
  refine T.F__law_pack.ok sc__law_pack (spn_len (k := 2) fun ss S r S' hg => ?_) (fun cdv A outer s H vs Q E hr h => ⟨_, (pss_cons (ps_set (i := 2) sc__law_pack.nd rfl (by first | exact Or.inl rfl | exact Or.inr rfl) (pe_ifExp (pt_cmpR op_lt (pv 1) (pe_callB (call_lenK K) (by rfl) T.n_len (by decide +kernel) (pa_cons (pv 0) pa_nil)) (nomark _)) (pe_callTy call_intD (by rfl) T.n_int (by decide +kernel) (pa_cons (pe_ix (ix_seqK K) (pv 0) (pv 1) (fun _ _ => rfl)) pa_nil)) (pe_op op_add (pe_op op_mul pe_int (pv 1)) pe_int))) (pss_cons (ps_set (i := 3) sc__law_pack.nd rfl (by first | exact Or.inl rfl | exact Or.inr rfl) (pe_op op_mod (pe_callTy call_intD (by rfl) T.n_int (by decide +kernel) (pa_cons (pe_callB call_absD (by rfl) T.n_abs (by decide +kernel) (pa_cons (pv 2) pa_nil)) pa_nil)) (pe_op op_powW (pe_op op_powW pe_int pe_int) pe_int))) (pss_one (ps_ret (pe_lst (pa_cons (pe_callB (call_max2D rfl) (by rfl) T.n_max (by decide +kernel) (pa_cons pe_int (pa_cons (pe_op op_sub (pv 3) (pe_op op_powW pe_int pe_int)) pa_nil))) (pa_cons (pe_op op_add (pe_op op_add (pe_op op_add (pe_op op_mul (pe_op op_mod (pe_callTy call_intD (by rfl) T.n_int (by decide +kernel) (pa_cons (pv 3) pa_nil)) pe_int) pe_int) (pe_op op_mul pe_int (pv 1))) (pe_op op_mul pe_int (pe_callTy call_intD (by rfl) T.n_int (by decide +kernel) (pa_cons (pe_cmpR op_lt (pv 2) pe_int (nomark _)) pa_nil)))) pe_int) (pa_cons pe_int pa_nil)))))))), ?_⟩)
  · obtain ⟨i, n, rfl, _⟩ := hg; rfl
  · obtain ⟨B, as, S, ss, r, S', c, rs, ⟨ns, i, rfl, rfl, rfl⟩, q⟩ := h
    have g := EnvR.start (N := ["script", "spot", "cell", "great"]) rs
    refine raw_set (x := .d (.int (cellF ns i))) (S1 := S') (ev_if (b := decide ((i : Int) < ns.length)) (S1 := S') (et_test (ev_op (ev_var rfl) (ev_cb (ea_cons (ev_var rfl) ea_nil) cd_lenS) o_lt)) (fun hh => ?_) fun hh => ?_) c g fun B1 H1 v c1 x1 g1 => ?_
    · have hlt : i < ns.length := by have := of_decide_eq_true hh; omega
      refine (ev_cb (ea_cons (ev_op (ev_var rfl) (ev_var rfl) (op2_ixS (u := ns.getD i 0) ?_)) ea_nil) cd_int).to ?_
      · rw [atI_n (by rw [List.length_map]; exact hlt), List.getElem_map, List.getD_eq_getElem?_getD, List.getElem?_eq_getElem hlt]; rfl
      · unfold cellF; rw [if_pos hlt]
    · have hlt : ¬ i < ns.length := by have := of_decide_eq_false hh; omega
      refine (ev_op (ev_op ev_int (ev_var rfl) (o_mul (cm_l (by decide) (by decide)))) ev_int o_add).to ?_
      unfold cellF; rw [if_neg hlt]
    · refine raw_set (x := .d (.int (greatF ns i))) (S1 := S') (ev_op (ev_cb (ea_cons (ev_cb (ea_cons (ev_var rfl) ea_nil) cd_abs) ea_nil) cd_int) (ev_op (ev_op ev_int ev_int (o_powW ⟨by decide, by decide⟩)) ev_int (o_powW ⟨by decide, by decide +kernel⟩)) (o_mod big_pos)) c1 g1 fun B2 H2 v2 c2 x2 g2 => ?_
      refine raw_retN (ds := [.int (vatF ns i).1, .int (vatF ns i).2.1, .int (vatF ns i).2.2]) (S1 := S') (en_lst (ea_cons (ev_cb (ea_cons ev_int (ea_cons (ev_op (ev_var rfl) (ev_op ev_int ev_int (o_powW ⟨by decide, by decide⟩)) o_sub) ea_nil)) cd_max2) (ea_cons (ev_op (ev_op (ev_op (ev_op (ev_op (ev_cb (ea_cons (ev_var rfl) ea_nil) cd_int) ev_int (o_mod (by decide))) ev_int (o_mul (cm_r (by decide) (by decide)))) (ev_op ev_int (ev_var rfl) (o_mul (cm_l (by decide) (by decide)))) o_add) (ev_op ev_int (ev_cb (ea_cons (ev_op (ev_var rfl) ev_int o_lt) ea_nil) cd_intB) (o_mul (cm_l (by decide) (by decide)))) o_add) ev_int o_add) (ea_cons ev_int ea_nil))) (by show 3 ≤ sizeLine; decide)) c2 g2 fun p B4 H4 ws c4 x4 hp hb hl r3 => q p B4 H4 ws c4 ((x1.trans x2).trans x4) ⟨hp.1, (x1.trans x2).oldN hp.2⟩ hb hl r3
theorem ok__law_dealt (T : Txt K mg) : FnOk P w K mg base CX0 1 T.a__law_dealt T.d__law_dealt ["pack", "total"] (SpD K (gDrawF)) := by
  refine T.F__law_dealt.ok sc__law_dealt (spd_len (k := 2) fun ss S r S' hg => ?_) (fun cdv A outer s H vs Q E hr h => ⟨_, (pss_cons (ps_if (pt_cmpR op_gt (pe_ix (ix_seqK K) (pv 0) pe_int (fun _ _ => rfl)) pe_int (nomark _)) (pss_cons (ps_set (i := 2) sc__law_dealt.nd rfl (by first | exact Or.inl rfl | exact Or.inr rfl) (pe_op op_mod (pe_callTy call_intD (by rfl) T.n_int (by decide +kernel) (pa_cons (pe_ix (ix_seqK K) (pv 0) pe_int (fun _ _ => rfl)) pa_nil)) (pv 1))) (pss_cons (ps_asg (pe_op op_fdivW (pe_ix (ix_seqK K) (pv 0) pe_int (fun _ _ => rfl)) (pv 1)) (pg_sub (pv 0) pe_int set_list)) (pss_one (ps_ret (pv 2))))) pss_nil) (pss_cons (ps_asg (pe_op op_add (pe_ix (ix_seqK K) (pv 0) pe_int (fun _ _ => rfl)) pe_int) (pg_sub (pv 0) pe_int set_list)) (pss_cons (ps_set (i := 3) sc__law_dealt.nd rfl (by first | exact Or.inl rfl | exact Or.inr rfl) (pe_op op_mod (pe_callTy call_intD (by rfl) T.n_int (by decide +kernel) (pa_cons (pe_op op_add (pe_ix (ix_seqK K) (pv 0) pe_int (fun _ _ => rfl)) (pe_op op_mul pe_int (pe_ix (ix_seqK K) (pv 0) pe_int (fun _ _ => rfl)))) pa_nil)) pe_int)) (pss_cons (ps_set (i := 4) sc__law_dealt.nd rfl (by first | exact Or.inl rfl | exact Or.inr rfl) (pe_op op_add (pe_op op_mul (pe_op op_mod (pe_callTy call_intD (by rfl) T.n_int (by decide +kernel) (pa_cons (pe_op op_add (pe_op op_mul (pv 3) (pv 3)) (pe_op op_mul pe_int (pe_ix (ix_seqK K) (pv 0) pe_int (fun _ _ => rfl)))) pa_nil)) pe_int) pe_int) (pv 3))) (pss_one (ps_ret (pe_op op_mod (pe_callTy call_intD (by rfl) T.n_int (by decide +kernel) (pa_cons (pe_op op_fdivW (pv 4) pe_int) pa_nil)) (pv 1)))))))), sp_body h fun ss S r S' hg => ?_⟩)
  · obtain ⟨k, v, t, rfl, _⟩ := hg; rfl
  · obtain ⟨k, v, t, rfl, hk, ht, htw, rfl, rfl⟩ := hg
    have hs : ∀ (x : Dat), (S.set k x).take S.length = S.set k x := fun x => List.take_of_length_le (by simp)
    refine sp_ifq (b := decide (0 < v.1)) (et_test (ev_op (ev_op (ev_var rfl) ev_int (op2_ix (.cell hk) rfl)) ev_int o_gt)) (fun hh => ?_) fun hh => sp_nextq ?_
    · have hp := of_decide_eq_true hh
      have e : drawF v t = (v.1 % t, (v.1 / t, v.2.1, v.2.2)) := by unfold drawF; rw [if_pos hp]
      refine sp_assoc (sp_set (ev_op (ev_cb (ea_cons (ev_op (ev_var rfl) ev_int (op2_ix (.cell hk) rfl)) ea_nil) cd_int) (ev_var rfl) (o_mod ht)) (sp_assoc (sp_setitem (j := 0) (ev_op (ev_op (ev_var rfl) ev_int (op2_ix (.cell hk) rfl)) (ev_var rfl) (o_fdivW ⟨ht, ?_⟩)) (ev_var rfl) ev_int hk rfl (sp_retq (sp_ret (ev_var rfl) ⟨by rw [e], by rw [e]; exact hs _⟩)))))
      have h2 : t.natAbs < 2 ^ 100 := by omega
      have : t.natAbs.log2 < 100 := (Nat.log2_lt (by omega)).mpr h2
      omega
    · have hp := of_decide_eq_false hh
      have e : drawF v t = (twoF v / 65539 % t, (v.1, v.2.1, v.2.2 + 1)) := by unfold drawF; rw [if_neg hp]
      have h1 : 0 ≤ oneF v ∧ oneF v < 2305843009213693951 := ⟨Int.emod_nonneg _ (by decide), Int.emod_lt_of_pos _ (by decide)⟩
      refine sp_setitem (j := 2) (ev_op (ev_op (ev_var rfl) ev_int (op2_ix (.cell hk) rfl)) ev_int o_add) (ev_var rfl) ev_int hk rfl ?_
      have hk2 := set_get (e := .lst [.int v.1, .int v.2.1, .int (v.2.2 + 1)]) hk
      refine sp_set (x := .d (.int (oneF v))) (ev_op (ev_cb (ea_cons (ev_op (ev_op (ev_var rfl) ev_int (op2_ix (.cell hk2) rfl)) (ev_op ev_int (ev_op (ev_var rfl) ev_int (op2_ix (.cell hk2) rfl)) (o_mul (cm_l (by decide) (by decide)))) o_add) ea_nil) cd_int) ev_int (o_mod (by decide))) ?_
      refine sp_set (x := .d (.int (twoF v))) (ev_op (ev_op (ev_op (ev_cb (ea_cons (ev_op (ev_op (ev_var rfl) (ev_var rfl) (o_mul (cm_l ?_ ?_))) (ev_op ev_int (ev_op (ev_var rfl) ev_int (op2_ix (.cell hk2) rfl)) (o_mul (cm_l (by decide) (by decide)))) o_add) ea_nil) cd_int) ev_int (o_mod (by decide))) ev_int (o_mul (cm_r (by decide) (by decide)))) (ev_var rfl) o_add) ?_
      · omega
      · omega
      · exact sp_ret (ev_op (ev_cb (ea_cons (ev_op (ev_var rfl) ev_int (o_fdivW ⟨by decide, by decide⟩)) ea_nil) cd_int) (ev_var rfl) (o_mod ht)) ⟨by rw [e], by rw [e]; exact hs _⟩
theorem ok__law_one_of (T : Txt K mg) : FnOk P w K mg base CX0 2 T.a__law_one_of T.d__law_one_of ["pack", "items"] (SpD K (gPickF)) := by
  have G__law_dealt := ok__law_dealt (P := P) (w := w) (base := base) T
  have b__law_dealt := T.b__law_dealt
  refine T.F__law_one_of.ok sc__law_one_of (spd_len (k := 2) fun ss S r S' hg => ?_) (fun cdv A outer s H vs Q E hr h => ⟨_, (pss_one (ps_ret (pe_ix (ix_seqK K) (pv 1) (pe_call G__law_dealt (hr.mono (by decide)) rfl T.m__law_dealt T.k__law_dealt b__law_dealt .nil pass0 (pa_cons (pv 0) (pa_cons (pe_callB (call_lenK K) (by rfl) T.n_len (by decide +kernel) (pa_cons (pv 1) pa_nil)) pa_nil))) (fun _ _ => rfl)))), sp_body h fun ss S r S' hg => ?_⟩)
  · obtain ⟨k, v, d, ds, rfl, _⟩ := hg; rfl
  · obtain ⟨k, v, d, ds, rfl, hd, hk, hne, hl, rfl, rfl⟩ := hg
    have hp : 0 < (ds.length : Int) := by have := List.length_pos_iff.mpr hne; omega
    have hsq : ∀ {T : List Dat}, Seq T (.d d) ds := fun {T} => by
      rcases hd with rfl | rfl
      · exact .lst
      · exact .tup
    have h1 := draw_nn v hp
    have hlt := pick_lt (v := v) hne
    refine sp_ret (d := pickF ds v) (ev_op (ev_var rfl) (ev_call (ea_cons (ev_var rfl) (ea_cons (ev_cb (ea_cons (ev_var rfl) ea_nil) (cd_len hsq)) ea_nil)) ⟨k, v, ds.length, rfl, hk, hp, by omega, rfl, rfl⟩) (op2_ix hsq ?_)) ⟨rfl, List.take_of_length_le (by simp)⟩
    have e : (drawF v ds.length).1 = ((drawF v ds.length).1.toNat : Int) := by omega
    have := atI_n hlt
    rw [← e] at this
    rw [this]
    unfold pickF
    rw [List.getD_eq_getElem?_getD, List.getElem?_eq_getElem hlt]; rfl
theorem ok__law_due (T : Txt K mg) : FnOk P w K mg base CX0 1 T.a__law_due T.d__law_due ["words"] (SpD K (gDue)) := by
  refine T.F__law_due.ok sc__law_due (spd_len (k := 1) fun ss S r S' hg => ?_) (fun cdv A outer s H vs Q E hr h => ⟨_, (pss_one (ps_ret (pe_lc (own := [("word", 1)]) rfl sc__law_due.nd (pi_seqK K (pv 0)) (blkOk_by (own := [("word", 1)]) (N := ["words", "word"]) (sc := (defScope s__law_due)) (by decide +kernel)) (fun _ _ _ _ _ => (pg_name (i := 1) sc__law_due.nd rfl (by first | exact Or.inl rfl | exact Or.inr rfl))) (fun _ _ _ _ _ => pts_nil) (fun _ _ _ _ _ => (pe_ifExp (pt_cmpR op_eq (pv 1) pe_str (nomark _)) (pe_tup (pa_cons pe_str pa_nil)) (pe_tup (pa_cons pe_str (pa_cons (pv 1) pa_nil)))))))), sp_body h fun ss S r S' hg => ?_⟩)
  · obtain ⟨ws, rfl, _⟩ := hg; rfl
  · obtain ⟨ws, rfl, hl, rfl, rfl⟩ := hg
    refine sp_ret (EvN.ev (en_mapA (xs := ws) (g := Dat.str) (is := [1]) dueD (it_lst (ev_var rfl)) (size_1000 hl) (fun _ _ => trivial) (by decide) (fun s env => env.set 1 (some (.d (.str s)))) fun s hs => ⟨tg_name, ev_if (b := decide (s = "fine")) (et_test (ev_op (ev_var rfl) ev_str o_eqS)) (fun h => ?_) fun h => ?_⟩)) ⟨rfl, List.take_length⟩
    · unfold dueD
      rw [if_pos (of_decide_eq_true h)]
      exact ev_tup (ds := [.str "fine"]) (ea_cons ev_str ea_nil) (szd (Nat.le_of_ble_eq_true rfl))
    · unfold dueD
      rw [if_neg (of_decide_eq_false h)]
      exact ev_tup (ds := [.str "raised", .str s]) (ea_cons ev_str (ea_cons (ev_var rfl) ea_nil)) (szd (Nat.le_of_ble_eq_true rfl))
end
abbrev T10 : Int := 10 ^ (60 : Int).toNat
def letV : List V := [.str "fine"]
def letD : Dat := .tup [.str "fine"]
def toldV (s : Str) : List V := [.str "raised", .str s]
def toldD (s : Str) : Dat := .tup [.str "raised", .str s]
theorem rep_told (K : PySem.W.Frag) (s : Str) : RepM K (.t (toldV s)) (toldD s) := ⟨_, rfl, fun _ => .cons (.str _) (.cons (.str _) .nil)⟩
def tWord (s : String) : Addr → Value → Option Addr → TS := fun _ _ _ => tRet (tTup (tCons (tC (.str "raised")) (tCons (tC (.str (Str.ofString s))) tNil)))
def tNum (K : PySem.W.Frag) (C : Addr) (w : String) (f : Str) : Addr → Value → Option Addr → TS := fun a cls d => tRet (tTup (tCons (tC (.str "raised")) (tCons (tOp rAddS (tC (.str (Str.ofString w))) (tCB (rReprD K) (tCons (tXf a cls d C f (tVar 1)) tNil))) tNil)))
abbrev qLam (x : Str) : Str := x ++ ".<locals>." ++ "<lambda>"
theorem rep_let (K : PySem.W.Frag) : RepM K (.t letV) letD := ⟨_, rfl, fun _ => .cons (.str _) .nil⟩
/-- a word before what is shown -/
def shT (w : String) (d : Dat) : Str := Str.ofString w ++ reprD d
structure ShOk (w : String) (d : Dat) : Prop where
  pl : Pl 1 d
  sh : (py d).showable = true
  len : (reprD d).length ≤ 100
  lay : (PyData.str (shT w d)).canLay0 = true
section
variable {K : PySem.W.Frag} {mg : Str → Option Value}
def Cl (T : Txt K mg) : List Clause := [(.ref T.a_InvalidReading, none, tWord "reading"), (.ref T.a_InvalidRow, none, tWord "row"), (.ref T.a_InvalidOperation, none, tWord "operation"), (.ref T.a_TooMany, some 1, tNum K T.a_TooMany "many " "limit")]
def tFine : TE := tTup (tCons (tC (.str "fine")) tNil)
inductive RS (T : Txt K mg) : Hp → Addr → Option (Str × V) → MR → Prop
  | rd {H : Hp} : RS T H T.a_InvalidReading none (.t (toldV "reading"))
  | row {H : Hp} : RS T H T.a_InvalidRow none (.t (toldV "row"))
  | op {H : Hp} : RS T H T.a_InvalidOperation none (.t (toldV "operation"))
  | many {H : Hp} {v : V} {d : Dat} (o : ShOk "many " d) (h : Rep K H v d) : RS T H T.a_TooMany (some ("limit", v)) (.t (toldV (shT "many " d)))
theorem word_run {s : String} {Q : VK} {te0 : TE} {a : Addr} {cls : Value} {d : Option Addr} {σ : L2.St} {H : Hp} (q : Ret (.t (toldV (Str.ofString s))) H Q) : suiteRun (Dm te0 Q) none (tWord s a cls d) a σ H := ⟨by show 2 ≤ sizeLine; decide, q⟩
theorem num_run {w : String} {f : Str} {C : Addr} {v : V} {x : Dat} {Q : VK} {te0 : TE} {a : Addr} {d : Option Addr} {σ : L2.St} {H : Hp} (hw : (Str.ofString w).length ≤ 100) (o : ShOk w x) (hv : Rep K H v x) (pv : PayV H d (some (f, v))) (hs : σ.length = 2) (q : Ret (.t (toldV (shT w x))) H Q) :
    suiteRun (Dm te0 Q) (some 1) (tNum K C w f a (.ref C) d) a σ H := by
  obtain ⟨dd, rfl, hdd⟩ := pv
  refine ⟨.ref a, ?_, rfl, rfl, dd, _, v, rfl, hdd, by simp [List.lookup], v, py x, rfl, o.pl.dp v hv, ⟨o.pl.lay.1, o.sh, Nat.le_trans o.pl.lay.2 (by decide), Nat.le_trans o.len (szd (by decide))⟩, ?_⟩
  · show (σ.set 1 (some (V.ref a)))[1]? = _
    exact List.getElem?_set_self (by omega)
  · refine ⟨Str.ofString w, reprD x, rfl, rfl, ?_, by show 2 ≤ sizeLine; decide, q⟩
    exact szd (by have := o.len; omega)
theorem met_ok (T : Txt K mg) : MetOkH (TMet K (Cl T) tFine (.t letV) 2) (.t letV) (RS T) := by
  refine ⟨fun tl H Q h => ⟨EMetH (RS T) Q, fun cls d σ H' hE hl => ?_, h⟩⟩
  obtain ⟨C, p, r, rfl, hr, pv, q⟩ := hE
  cases hr with
  | rd => exact ⟨true, T.em_InvalidReading_InvalidReading, fun _ a ha => word_run q, (fun z => nomatch z)⟩
  | row => exact ⟨false, T.em_InvalidRow_InvalidReading, (fun z => nomatch z), fun _ => ⟨true, T.em_InvalidRow_InvalidRow, fun _ a ha => word_run q, (fun z => nomatch z)⟩⟩
  | op => exact ⟨false, T.em_InvalidOperation_InvalidReading, (fun z => nomatch z), fun _ => ⟨false, T.em_InvalidOperation_InvalidRow, (fun z => nomatch z), fun _ => ⟨true, T.em_InvalidOperation_InvalidOperation, fun _ a ha => word_run q, (fun z => nomatch z)⟩⟩⟩
  | @many v x o hv =>
    exact ⟨false, T.em_TooMany_InvalidReading, (fun z => nomatch z), fun _ => ⟨false, T.em_TooMany_InvalidRow, (fun z => nomatch z), fun _ => ⟨false, T.em_TooMany_InvalidOperation, (fun z => nomatch z), fun _ => ⟨true, T.em_TooMany_TooMany, fun _ a ha => num_run (by decide +kernel) o hv pv (by omega) q, (fun z => nomatch z)⟩⟩⟩⟩
end
theorem lam__law_word {X : Cx} {T : Txt X.K X.mg} {c P : Addr} {k : Nat} {params : Arguments} {body : Expr} {scope : Scope} {t : XK → TE} {p lpos pos : Pos} {tabs : List (Addr × Str)} (hmT : (P, X.env.qual ++ "<lambda>") ∈ tabs) (hu : ∀ p ∈ tabs, p.1 = P → p.2 = X.env.qual ++ "<lambda>") (hcm : Calm X.A)
    (TB : LamX.TabB X.base X.mg c P) (hcode : X.env.code = .ref c) (hr : Room (k + 2) X.A) (hg : Gl X "_law_word") (L : LamX.LamS X.env.scope scope) (hdef : defaultsOf params X.env = ([], []))
    (hbind : ∀ (q : Str) (cl : List (Str × Addr)) (pm cv ctv : Value), bindArgs (PySem.W.kla_fn "<lambda>" q params body scope cl pm cv ctv) ⟨[], []⟩ = pure [])
    (hbody : ∀ (A : Around) (outer : List Env) (s : Shared) (H : Hp) (E : XK) (f c' : Addr), Room k (A.deeper (LamX.lamEnv X scope s.heap.objs.size f c')) → PE (LamX.lamCx X A outer s H E scope f c') body (t E)) :
    PE X (.Call (.Name "_law_word" p) [.Lambda params body scope lpos] [] pos) (LamX.tLam tabs (TMet X.K (Cl T) tFine (.t letV) 2) t) := by
  obtain ⟨oc, od, kV, doc, pm, an, cdv, ct, osl, e, lk, hc⟩ := T.F__law_word.ex
  have hb := T.b__law_word
  rw [e] at lk hb
  have hz : X.A.units + 16 * (k + 2) + 200 < cLine := hr.un
  refine LamX.pe_lamcall hg T.m__law_word T.k__law_word lk hc hb sc__law_word rfl (Or.inl rfl) (met_gives (fun s H => ?_) (fun s H => ?_) (fun _ => rfl) fun _ _ _ => ?_) TB hcode hmT hu hr L hdef hbind hbody
  · refine .bare ⟨rfl, by decide, .inl T.m_InvalidReading⟩ (fun a oe cls d pn hz hf => pss_one (ps_ret (pe_tup (pa_cons pe_str (pa_cons pe_str pa_nil))))) ?_
    refine .bare ⟨rfl, by decide, .inl T.m_InvalidRow⟩ (fun a oe cls d pn hz hf => pss_one (ps_ret (pe_tup (pa_cons pe_str (pa_cons pe_str pa_nil))))) ?_
    refine .bare ⟨rfl, by decide, .inl T.m_InvalidOperation⟩ (fun a oe cls d pn hz hf => pss_one (ps_ret (pe_tup (pa_cons pe_str (pa_cons pe_str pa_nil))))) ?_
    refine .named (m := "error") ⟨rfl, by decide, .inl T.m_TooMany⟩ (by show (["call", "error"] : List Str).Nodup; decide) rfl rfl (fun a oe cls d pn hz' hf => pss_one (ps_ret (pe_tup (pa_cons pe_str (pa_cons (pe_op op_addS pe_str (pe_callB (call_reprD X.K hcm ?_) (by rfl) T.n_repr (by decide +kernel) (pa_cons (pe_xf T.xf_TooMany T.nf_TooMany hz' hf (pv 1)) pa_nil))) pa_nil))))) .nil
    show X.A.units + 3 + 64 < cLine
    omega
  · exact pe_tup (pa_cons pe_str pa_nil)
  · exact ⟨fun h => h.2, fun h => ⟨by show 1 ≤ sizeLine; decide, h⟩⟩
section
variable {P : Program} {w : World} {K : PySem.W.Frag} {mg : Str → Option Value} {base : Heap}
def tabs (T : Txt K mg) : List (Addr × Str) := [(T.P__law_right, qLam "_law_right"), (T.P_law, qLam "law")]
theorem pne2 (T : Txt K mg) : T.P__law_right ≠ T.P_law := fun e => by
  have := T.pne
  rw [e] at this
  simp at this
theorem tm1 (T : Txt K mg) : (T.P__law_right, qLam "_law_right") ∈ tabs T := List.mem_cons_self
theorem tm0 (T : Txt K mg) : (T.P_law, qLam "law") ∈ tabs T := List.mem_cons_of_mem _ List.mem_cons_self
theorem tu1 (T : Txt K mg) : ∀ p ∈ tabs T, p.1 = T.P__law_right → p.2 = qLam "_law_right" := fun p hp e => by
  rcases List.mem_cons.mp hp with rfl | hp
  · rfl
  · rw [List.mem_singleton.mp hp] at e
    exact absurd e.symm (pne2 T)
theorem tu0 (T : Txt K mg) : ∀ p ∈ tabs T, p.1 = T.P_law → p.2 = qLam "law" := fun p hp e => by
  rcases List.mem_cons.mp hp with rfl | hp
  · exact absurd e (pne2 T)
  · rw [List.mem_singleton.mp hp]
end
theorem at_same {T : List (Addr × Str)} {S S' : List Dat} (h : AllTabs T S) (e : ∀ (k : Nat) (P : Addr) (q : Str), S'[k]? = some (Dat.tab P q) ↔ S[k]? = some (Dat.tab P q)) : AllTabs T S' :=
  ⟨fun p hp => (h.1 p hp).imp fun k hk => (e k _ _).mpr hk, fun k P q hk => h.2 k P q ((e k P q).mp hk)⟩
theorem at_setl {T : List (Addr × Str)} {S : List Dat} {j : Nat} {xs ys : List Dat} (h : AllTabs T S) (hj : S[j]? = some (.lst ys)) : AllTabs T (S.set j (.lst xs)) := at_same h fun k P q => by
  by_cases hk : j = k
  · subst hk
    rw [hj, List.getElem?_set_self (List.getElem?_eq_some_iff.mp hj).1]
    exact ⟨fun z => (by cases z), fun z => (by cases z)⟩
  · rw [List.getElem?_set_ne hk]
theorem at_app {T : List (Addr × Str)} {S : List Dat} {xs : List Dat} (h : AllTabs T S) : AllTabs T (S ++ [.lst xs]) := at_same h fun k P q => by
  rcases Nat.lt_or_ge k S.length with hk | hk
  · rw [List.getElem?_append_left hk]
  · rw [List.getElem?_append_right hk, List.getElem?_eq_none hk]
    refine ⟨fun z => ?_, fun z => (by cases z)⟩
    rcases Nat.eq_or_lt_of_le hk with e | e
    · rw [e, Nat.sub_self] at z; cases z
    · rw [List.getElem?_eq_none (by simp; omega)] at z; cases z

section
variable {K : PySem.W.Frag} {tl tm : TE} {env : Env1} {S T0 ds : List Dat} {k j n : Nat} {v : Vt} {E : XK} {p : Dat → Prop} {u : TS} {P : Post} {d : Dat}
theorem ev_met0 {tl' : XK → TE} {TT : (XK → Hp → VK → Prop) → Hp → VK → Prop} {r0 : MR} {res : Hp → Addr → Option (Str × V) → MR → Prop} {T : List (Addr × Str)} {C : Addr} {r : MR} {S1 : List Dat} (M : MetOkH TT r0 res) (hT : AllTabs T S) (h : ∀ E, EvX K E (tl' E) env S C none S1) (hr : RepM K r d) (hres : ∀ H : Hp, res H C none r) : Ev K (LamX.tLam T TT tl') env S (.d d) S1 := ev_metHX M hT h hr hres
theorem ev_met1 {tl' : XK → TE} {TT : (XK → Hp → VK → Prop) → Hp → VK → Prop} {r0 : MR} {res : Hp → Addr → Option (Str × V) → MR → Prop} {T : List (Addr × Str)} {C : Addr} {r : MR} {S1 : List Dat} {f : Str} {x : Dat} (M : MetOkH TT r0 res) (hT : AllTabs T S) (h : ∀ E, EvX K E (tl' E) env S C (some (f, x)) S1) (hr : RepM K r d) (hres : ∀ (H : Hp) (v : V), Rep K H v x → res H C (some (f, v)) r) : Ev K (LamX.tLam T TT tl') env S (.d d) S1 := ev_metHX M hT h hr hres
theorem eve_pick (hT : ∃ u, T0 = S.set k (vatD u)) (hk : T0[k]? = some (vatD v)) (hj : env[j]? = some (some (.c k))) (hl : Ev K tl env T0 (.d (.lst ds)) T0) (hne : ds ≠ []) (hz : ds.length ≤ 1000) (hp : ∀ d ∈ ds, p d) :
    EvE K (tCall (SpD K gPickF) [] E (tCons (tVar j) (tCons tl tNil))) env T0 (fun r T => ∃ d, r = .d d ∧ p d ∧ ∃ v', T = S.set k (vatD v')) :=
  (ev_call (ea_cons (ev_var hj) (ea_cons hl ea_nil)) ⟨k, v, .lst ds, ds, rfl, .inl rfl, hk, hne, by omega, rfl, rfl⟩).e1 ⟨_, rfl, hp _ (pick_mem hne), (drawF v ds.length).2, by
    obtain ⟨u, hu⟩ := hT
    rw [hu, List.set_set]⟩
end
end N46

set_option Elab.async false
set_option linter.all false
set_option maxRecDepth 100000
set_option maxHeartbeats 4000000
namespace N46
open PySem PySem.Spec PyProof.Rows L2 RW

abbrev R65 : Dat := .tup ((List.range 65).map fun i => .tup [.int 1, .int (0 + (i : Nat))])
theorem r65_kd : KD R65 := .tup (fun d hd => by
  obtain ⟨i, _, rfl⟩ := List.mem_map.mp hd
  exact .tup (kc (.int _) (kc (.int _) kn)) (Nat.le_of_ble_eq_true rfl)) (by rw [List.length_map, List.length_range]; decide)
abbrev XXD : Dat := .tup [.tup [.int 0, .int T10], .tup []]
abbrev RAYX : Dat := .tup [.int T10, .int 1]
theorem pl_two {a b : Int} : Pl 1 (.tup [.int a, .int b]) := .tup fun d hd => by
  simp only [List.mem_cons, List.not_mem_nil, or_false] at hd
  rcases hd with rfl | rfl <;> exact .int _
theorem pl_xx : Pl 2 XXD := .tup fun d hd => by
  simp only [List.mem_cons, List.not_mem_nil, or_false] at hd
  rcases hd with rfl | rfl
  · exact pl_two
  · exact .tup fun _ h => by cases h
theorem good_kd : KD GOODT := by (repeat (first | exact kn | (refine kc ?_ ?_) | assumption | exact KD.non | exact KD.bl _ | exact KD.int _ | exact KD.str _ | exact KD.dd | refine KD.tup ?_ (Nat.le_of_ble_eq_true rfl) | refine KD.lst ?_ (Nat.le_of_ble_eq_true rfl)))
theorem three_kd : KD THREE := by (repeat (first | exact kn | (refine kc ?_ ?_) | assumption | exact KD.non | exact KD.bl _ | exact KD.int _ | exact KD.str _ | exact KD.dd | refine KD.tup ?_ (Nat.le_of_ble_eq_true rfl) | refine KD.lst ?_ (Nat.le_of_ble_eq_true rfl)))
def NONES : List Dat := [.non, .int 0, .tup [], .str "reading", .tup [.tup [.tup [.int 0, .int 0]]], .tup [.tup [], .tup [.tup [.int 0, .int 0]]], .tup [.tup [.tup [.int 1, .int 0], .tup [.int 0, .int 0]], .tup [.tup [.int 0, .int 0]]], .lst [.tup [.tup [.int 0, .int 0]], .tup [.tup [.int 0, .int 0]]], .dd]
def FARS : List Dat := [.tup [.tup [.tup [.int 0, .int 0, .int 1]], .tup [.tup [.int 0, .int 0, .int 0]]], .tup [.tup [.tup [.int 1]], .tup [.tup [.int 0]]]]
def ODD1 : List Dat := [.non, .int 0, .tup [], .str "round", .tup [.tup [.int 0, .int 0]], .tup [.tup [.int 0, .int 0], .tup [.tup [.tup [.int 1, .int 0], .int 1]]], .tup [.tup [.int 0, .int 0], .tup [.tup [.tup [.int (-1), .int 0], .int 1], .tup [.tup [.int 1, .int 0], .int 1]]], .tup [.tup [.int 0, .int T10], .tup []], .dd]
def ODD2 : List Dat := [.tup [.tup [.int 0, .int 0], .tup [.tup [.tup [.int 2, .int 0], .int 1], .tup [.tup [.int (-2), .int 0], .int 1]]], .tup [.tup [.int 0, .int 0], .tup [.tup [.tup [.int 1, .int 0], .bl true], .tup [.tup [.int (-1), .int 0], .bl true]]], .tup [.tup [.int 0, .int 0], .lst []]]
def ROWS : List Dat := [.non, .int 0, .tup [.int 1], .tup [.int 1, .int 2, .int 3], .lst [.int 1, .int 2], .tup [.bl true, .int 0], .tup [.int 1, .str "0"], .tup [.int T10, .int 0], .str "ab"]
def RAYM : List Dat := [.non, .int 0, .tup [.int 0, .int 0], .tup [.int 2, .int 0], .tup [.int 2, .int 4], .tup [.int 1, .int 0, .int 0], .lst [.int 1, .int 0], .tup [.bl true, .int 0], .tup [.int T10, .int 1], .str "ray"]
def FAN1 : List Dat := [.non, .tup [], .tup [.tup [.int 1, .int 0], .tup [.int 0, .int 1]], .tup [.tup [.int 1, .int 0], .tup [.int 0, .int 1], .tup [.int (-1), .int 0]], .tup [.tup [.int 0, .int 1], .tup [.int 1, .int 0], .tup [.int (-1), .int (-1)]], .lst [.tup [.int 1, .int 0], .tup [.int 0, .int 1], .tup [.int (-1), .int (-1)]], .str "fan", .dd]
def FAN2 : List Dat := [.tup [.tup [.int 1, .int 0], .tup [.int 1, .int 1], .tup [.int 0, .int 1], .tup [.int (-1), .int (-1)], .tup [.int 1, .int 0]], .tup [.tup [.int 1, .int 0], .tup [.int 0, .int 1], .tup [.int (-1), .int (-2)]], .tup [.tup [.int 1, .int 0], .tup [.int 2, .int 1], .tup [.int 0, .int 1], .tup [.int (-1), .int (-1)]]]
def VALS : List Dat := [.non, .tup [], .tup [.int 1, .int 2], .tup [.int 1, .int 2, .int 3, .int 4], .lst [.int 1, .int 2, .int 3], .tup [.int 1, .int 2, .bl true], .tup [.int 1, .int 2, .non], .tup [.int 1, .int 2, .int T10], .str "abc", .int 3]
def RAYL : List Dat := [.non, .int 0, .lst [.tup [.int 1, .int 0]], .tup [.tup [.int 1, .int 0], .tup [.int 1, .int 0]], .tup [.tup [.int 2, .int 0]], .tup [.tup [.int 1, .int 0], .non], R65, .str "rays", .dd]
theorem nones_kd : ∀ d ∈ NONES, KD d := by
  have h := r65_kd
  unfold NONES
  (repeat (first | exact kn | (refine kc ?_ ?_) | assumption | exact KD.non | exact KD.bl _ | exact KD.int _ | exact KD.str _ | exact KD.dd | refine KD.tup ?_ (Nat.le_of_ble_eq_true rfl) | refine KD.lst ?_ (Nat.le_of_ble_eq_true rfl)))
theorem fars_kd : ∀ d ∈ FARS, KD d := by
  have h := r65_kd
  unfold FARS
  (repeat (first | exact kn | (refine kc ?_ ?_) | assumption | exact KD.non | exact KD.bl _ | exact KD.int _ | exact KD.str _ | exact KD.dd | refine KD.tup ?_ (Nat.le_of_ble_eq_true rfl) | refine KD.lst ?_ (Nat.le_of_ble_eq_true rfl)))
theorem odd1_kd : ∀ d ∈ ODD1, KD d := by
  have h := r65_kd
  unfold ODD1
  (repeat (first | exact kn | (refine kc ?_ ?_) | assumption | exact KD.non | exact KD.bl _ | exact KD.int _ | exact KD.str _ | exact KD.dd | refine KD.tup ?_ (Nat.le_of_ble_eq_true rfl) | refine KD.lst ?_ (Nat.le_of_ble_eq_true rfl)))
theorem odd2_kd : ∀ d ∈ ODD2, KD d := by
  have h := r65_kd
  unfold ODD2
  (repeat (first | exact kn | (refine kc ?_ ?_) | assumption | exact KD.non | exact KD.bl _ | exact KD.int _ | exact KD.str _ | exact KD.dd | refine KD.tup ?_ (Nat.le_of_ble_eq_true rfl) | refine KD.lst ?_ (Nat.le_of_ble_eq_true rfl)))
theorem rows_kd : ∀ d ∈ ROWS, KD d := by
  have h := r65_kd
  unfold ROWS
  (repeat (first | exact kn | (refine kc ?_ ?_) | assumption | exact KD.non | exact KD.bl _ | exact KD.int _ | exact KD.str _ | exact KD.dd | refine KD.tup ?_ (Nat.le_of_ble_eq_true rfl) | refine KD.lst ?_ (Nat.le_of_ble_eq_true rfl)))
theorem raym_kd : ∀ d ∈ RAYM, KD d := by
  have h := r65_kd
  unfold RAYM
  (repeat (first | exact kn | (refine kc ?_ ?_) | assumption | exact KD.non | exact KD.bl _ | exact KD.int _ | exact KD.str _ | exact KD.dd | refine KD.tup ?_ (Nat.le_of_ble_eq_true rfl) | refine KD.lst ?_ (Nat.le_of_ble_eq_true rfl)))
theorem fan1_kd : ∀ d ∈ FAN1, KD d := by
  have h := r65_kd
  unfold FAN1
  (repeat (first | exact kn | (refine kc ?_ ?_) | assumption | exact KD.non | exact KD.bl _ | exact KD.int _ | exact KD.str _ | exact KD.dd | refine KD.tup ?_ (Nat.le_of_ble_eq_true rfl) | refine KD.lst ?_ (Nat.le_of_ble_eq_true rfl)))
theorem fan2_kd : ∀ d ∈ FAN2, KD d := by
  have h := r65_kd
  unfold FAN2
  (repeat (first | exact kn | (refine kc ?_ ?_) | assumption | exact KD.non | exact KD.bl _ | exact KD.int _ | exact KD.str _ | exact KD.dd | refine KD.tup ?_ (Nat.le_of_ble_eq_true rfl) | refine KD.lst ?_ (Nat.le_of_ble_eq_true rfl)))
theorem vals_kd : ∀ d ∈ VALS, KD d := by
  have h := r65_kd
  unfold VALS
  (repeat (first | exact kn | (refine kc ?_ ?_) | assumption | exact KD.non | exact KD.bl _ | exact KD.int _ | exact KD.str _ | exact KD.dd | refine KD.tup ?_ (Nat.le_of_ble_eq_true rfl) | refine KD.lst ?_ (Nat.le_of_ble_eq_true rfl)))
theorem rayl_kd : ∀ d ∈ RAYL, KD d := by
  have h := r65_kd
  unfold RAYL
  (repeat (first | exact kn | (refine kc ?_ ?_) | assumption | exact KD.non | exact KD.bl _ | exact KD.int _ | exact KD.str _ | exact KD.dd | refine KD.tup ?_ (Nat.le_of_ble_eq_true rfl) | refine KD.lst ?_ (Nat.le_of_ble_eq_true rfl)))
theorem nones_no : ∀ d ∈ NONES, rdB d = false := by
  unfold NONES
  simp only [List.forall_mem_cons]
  refine ⟨?_, ?_, ?_, ?_, ?_, ?_, ?_, ?_, ?_, fun _ h => by cases h⟩ <;> decide +kernel
theorem fars_ok : ∀ d ∈ FARS, rdB d = true ∧ decide (lenD (fstR d) = 2) = false := by
  unfold FARS
  simp only [List.forall_mem_cons]
  refine ⟨?_, ?_, fun _ h => by cases h⟩ <;> decide +kernel
theorem odd1_no : ∀ d ∈ ODD1, toldOk d = false ∧ smT d = true := by
  unfold ODD1
  simp only [List.forall_mem_cons]
  refine ⟨?_, ?_, ?_, ?_, ?_, ?_, ?_, ?_, ?_, fun _ h => by cases h⟩ <;> decide +kernel
theorem odd1_r : ∀ d ∈ ODD1, roundB d = false ∨ d = XXD := by
  unfold ODD1
  simp only [List.forall_mem_cons]
  refine ⟨?_, ?_, ?_, ?_, ?_, ?_, ?_, ?_, ?_, fun _ h => by cases h⟩ <;> first | exact .inr trivial | exact .inr rfl | exact .inl (by decide +kernel)
theorem odd2_no : ∀ d ∈ ODD2, toldOk d = false ∧ smT d = true := by
  unfold ODD2
  simp only [List.forall_mem_cons]
  refine ⟨?_, ?_, ?_, fun _ h => by cases h⟩ <;> decide +kernel
theorem odd2_r : ∀ d ∈ ODD2, roundB d = false ∨ d = XXD := by
  unfold ODD2
  simp only [List.forall_mem_cons]
  refine ⟨?_, ?_, ?_, fun _ h => by cases h⟩ <;> first | exact .inr trivial | exact .inr rfl | exact .inl (by decide +kernel)
theorem rows_no : ∀ d ∈ ROWS, srB d 2 2 = false := by
  unfold ROWS
  simp only [List.forall_mem_cons]
  refine ⟨?_, ?_, ?_, ?_, ?_, ?_, ?_, ?_, ?_, fun _ h => by cases h⟩ <;> decide +kernel
theorem raym_no : ∀ d ∈ RAYM, okRay d = false := by
  unfold RAYM
  simp only [List.forall_mem_cons]
  refine ⟨?_, ?_, ?_, ?_, ?_, ?_, ?_, ?_, ?_, ?_, fun _ h => by cases h⟩ <;> decide +kernel
theorem raym_r : ∀ d ∈ RAYM, rayB d = false ∨ d = RAYX := by
  unfold RAYM
  simp only [List.forall_mem_cons]
  refine ⟨?_, ?_, ?_, ?_, ?_, ?_, ?_, ?_, ?_, ?_, fun _ h => by cases h⟩ <;> first | exact .inr trivial | exact .inr rfl | exact .inl (by decide +kernel)
theorem fan1_no : ∀ d ∈ FAN1, smoothB d = false ∧ smF d = true := by
  unfold FAN1
  simp only [List.forall_mem_cons]
  refine ⟨?_, ?_, ?_, ?_, ?_, ?_, ?_, ?_, fun _ h => by cases h⟩ <;> decide +kernel
theorem fan2_no : ∀ d ∈ FAN2, smoothB d = false ∧ smF d = true := by
  unfold FAN2
  simp only [List.forall_mem_cons]
  refine ⟨?_, ?_, ?_, fun _ h => by cases h⟩ <;> decide +kernel
theorem vals_no : ∀ d ∈ VALS, srB d 3 3 = false := by
  unfold VALS
  simp only [List.forall_mem_cons]
  refine ⟨?_, ?_, ?_, ?_, ?_, ?_, ?_, ?_, ?_, ?_, fun _ h => by cases h⟩ <;> decide +kernel
theorem rayl_no : ∀ d ∈ RAYL, fanBadB d = true ∨ d = TWICE := by
  unfold RAYL
  simp only [List.forall_mem_cons]
  refine ⟨?_, ?_, ?_, ?_, ?_, ?_, ?_, ?_, ?_, fun _ h => by cases h⟩ <;> first | exact .inr trivial | exact .inr rfl | exact .inl (by decide +kernel)
def PUTS : List (Int × Int) := [(1, 0), (-1, 0), (0, -1), (5, -1)]
theorem puts_ok : ∀ p ∈ PUTS, p.1.natAbs < 1000 ∧ p.2.natAbs < 1000 ∧ okRay (prD p) = true ∧ detF (1, 0) p ≤ 0 := by decide +kernel
theorem one_ok : okRay (prD (1, 0)) = true := by decide +kernel
def WA : List Str := [Str.ofString "reading", Str.ofString "operation", Str.ofString "operation", Str.ofString "row", Str.ofString "operation", Str.ofString "row", Str.ofString "operation"]
def WB : List Str := [Str.ofString "row", Str.ofString "row", Str.ofString "operation", Str.ofString "operation", Str.ofString "operation", Str.ofString "operation", Str.ofString "operation", Str.ofString "operation"]
def WC : List Str := [Str.ofString "fine", Str.ofString "fine"]
theorem w_nf : ∀ s ∈ WA ++ WB, ¬ s = Str.ofString "fine" := by decide +kernel
theorem due_is : ((WA ++ WB) ++ WC).map dueD = ((WA ++ WB).map toldD ++ [letD]) ++ [letD] := by
  rw [List.map_append, List.append_assoc, show (WA ++ WB).map dueD = (WA ++ WB).map toldD from List.map_congr_left fun s hs => if_neg (w_nf s hs)]
  rfl
theorem w_lay : ∀ s ∈ WA ++ WB, (PyData.str s).canLay0 = true := by decide +kernel
theorem pl_told {s : Str} (h : (PyData.str s).canLay0 = true) : Pl 1 (toldD s) := .tup fun d hd => by
  simp only [List.mem_cons, List.not_mem_nil, or_false] at hd
  rcases hd with rfl | rfl
  · exact .str (by decide +kernel)
  · exact .str h
theorem pl_let : Pl 1 letD := .tup fun d hd => by rw [List.mem_singleton.mp hd]; exact .str (by decide +kernel)
theorem pl_all : Pl 2 (.lst (((WA ++ WB).map toldD ++ [letD]) ++ [letD])) := .lst fun x hx => by
  rcases List.mem_append.mp hx with hx | hx
  · rcases List.mem_append.mp hx with hx | hx
    · obtain ⟨s, hs, rfl⟩ := List.mem_map.mp hx
      exact pl_told (w_lay s hs)
    · rw [List.mem_singleton.mp hx]; exact pl_let
  · rw [List.mem_singleton.mp hx]; exact pl_let
theorem map_snoc {α β : Type} (f : α → β) (xs : List α) (x : α) : (xs ++ [x]).map f = xs.map f ++ [f x] := by rw [List.map_append]; rfl
section
variable {A G : List Dat} {x y : Dat} {m : Nat}
theorem mid_get : (A ++ (x :: G))[A.length]? = some x := by simp
theorem mid_set : (A ++ (x :: G)).set A.length y = A ++ (y :: G) := by simp
theorem mid_get2 : (A ++ (x :: G))[A.length + 1 + m]? = G[m]? := by
  rw [List.getElem?_append_right (by omega), show A.length + 1 + m - A.length = m + 1 by omega]; rfl
theorem mid_set2 : (A ++ (x :: G)).set (A.length + 1 + m) y = A ++ (x :: G.set m y) := by
  rw [List.set_append_right _ _ (by omega), show A.length + 1 + m - A.length = m + 1 by omega]; rfl
theorem mid_len : (A ++ (x :: G)).length = A.length + 1 + G.length := by simp; omega
theorem mid_push : A ++ (x :: G) ++ [y] = A ++ (x :: (G ++ [y])) := by simp
end
theorem at_mid {T : List (Addr × Str)} {A G xs ys : List _} (h : AllTabs T (A ++ (Dat.lst xs :: G))) : AllTabs T (A ++ (Dat.lst ys :: G)) := by
  have := at_setl (xs := ys) h mid_get
  rwa [mid_set] at this
theorem at_mid2 {T : List (Addr × Str)} {A G xs ys : List _} {x : Dat} {m : Nat} (h : AllTabs T (A ++ (x :: G))) (hm : G[m]? = some (Dat.lst xs)) : AllTabs T (A ++ (x :: G.set m (.lst ys))) := by
  have := at_setl (xs := ys) h (show (A ++ (x :: G))[A.length + 1 + m]? = some (.lst xs) from mid_get2.trans hm)
  rwa [mid_set2] at this
section
variable {K : PySem.W.Frag} {env : Env1} {S ds : List Dat} {d : Dat} {i k n : Nat} {tm : TE} {u : TS} {P : Post} {G : List Dat}
theorem ev_big : Ev K (tOp (rI CPowW fun i j => V.int (i ^ j.toNat)) (tC (.int 10)) (tC (.int 60))) env S (.d (.int T10)) S := ev_op ev_int ev_int (o_powW ⟨by decide, by decide⟩)
theorem sp_tellM (he : env[i]? = some (some (.c S.length))) (hm : Ev K tm env (S ++ (.lst ds :: G)) (.d d) (S ++ (.lst ds :: G))) (hl : ds.length < 100) (q : SP K n u env (S ++ (.lst (ds ++ [d]) :: G)) P) :
    SP K n (tSeq (tDrop (tBM K "list" rAppend (tVar i) (tCons tm tNil))) u) env (S ++ (.lst ds :: G)) P :=
  sp_drop ((ev_append (ds := ds) (ev_var he) hm ⟨_, mid_get⟩ mid_get (Nat.lt_of_lt_of_le hl (szd (Nat.le_of_ble_eq_true rfl)))).toS mid_set) q
def gRight {mg : Str → Option Value} (T : Txt K mg) (ss : List Sl) (S : List Dat) (post : Dat → List Dat → Prop) : Prop := ∃ (k : Nat) (v : Vt), ss = [.c k] ∧ S[k]? = some (vatD v) ∧ AllTabs (tabs T) S ∧ post = fun r T => r = .bl true ∧ ∃ v', T = S.set k (vatD v')
theorem evx_put {v v5 : Vt} {CR CO : Addr} {E : XK} {S4 : List Dat} (hv5 : (drawF v 4).2 = v5) (hk4 : S4[k]? = some (vatD v)) (hkl : k < S4.length) (he : env[0]? = some (some (.c k))) {xs : Dat} {t1 t2 : TE}
    (h1 : ∀ {S : List Dat}, Ev K t1 env S (.d (prD (1, 0))) S) (h2 : ∀ {S : List Dat}, Ev K t2 env S (.d (.lst (PUTS.map prD))) S) :
    EvX K E (tCall (SpR K (gPB CR CO)) [] E (tCons t1 (tCons (tCall (SpD K gPickF) [] E0 (tCons (tVar 0) (tCons t2 tNil))) tNil))) env (S4 ++ [xs]) CO none (S4.set k (vatD v5) ++ [xs]) := by
  have hs : (S4 ++ [xs]).set k (vatD (drawF v 4).2) = S4.set k (vatD v5) ++ [xs] := by rw [hv5]; exact List.set_append_left _ _ hkl
  have hg : (S4 ++ [xs])[k]? = some (vatD v) := by rw [List.getElem?_append_left hkl]; exact hk4
  obtain ⟨p, hp, ep⟩ := List.mem_map.mp (pick_mem (ds := PUTS.map prD) (v := v) (by decide))
  have hok := puts_ok p hp
  refine ev_callX (S1 := S4.set k (vatD v5) ++ [xs]) (ea_cons h1 (ea_cons (ev_call (ea_cons (ev_var he) (ea_cons h2 ea_nil)) ⟨k, v, _, PUTS.map prD, rfl, .inl rfl, hg, by decide, by decide, rfl, hs.symm⟩) ea_nil)) ⟨prD (1, 0), prD p, by rw [ep], by (repeat (first | exact kn | (refine kc ?_ ?_) | assumption | exact KD.non | exact KD.bl _ | exact KD.int _ | exact KD.str _ | exact KD.dd | refine KD.tup ?_ (Nat.le_of_ble_eq_true rfl) | refine KD.lst ?_ (Nat.le_of_ble_eq_true rfl))), by (repeat (first | exact kn | (refine kc ?_ ?_) | assumption | exact KD.non | exact KD.bl _ | exact KD.int _ | exact KD.str _ | exact KD.dd | refine KD.tup ?_ (Nat.le_of_ble_eq_true rfl) | refine KD.lst ?_ (Nat.le_of_ble_eq_true rfl))), .inr (.inr ⟨(1, 0), p, rfl, rfl, ⟨sm_small (by decide), sm_small (by decide)⟩, ⟨sm_c hok.1, sm_c hok.2.1⟩, one_ok, hok.2.2.1, hok.2.2.2, rfl⟩), rfl⟩
end
section
variable {P : Program} {w : World} {K : PySem.W.Frag} {mg : Str → Option Value} {base : Heap}

theorem ok__law_right (T : Txt K mg) (TB : LamX.TabB base mg T.c__law_right T.P__law_right) : FnG P w K mg base CX0 10 T.a__law_right T.d__law_right ["pack"] (SpE K (gRight T)) := by
  have G__law_one_of := ok__law_one_of (P := P) (w := w) (base := base) T
  have b__law_one_of := T.b__law_one_of
  have G_round_of := ok_round_of (P := P) (w := w) (base := base) T
  have b_round_of := T.b_round_of
  have G_value_of_round := ok_value_of_round (P := P) (w := w) (base := base) T
  have b_value_of_round := T.b_value_of_round
  have G_form_behind := ok_form_behind (P := P) (w := w) (base := base) T
  have b_form_behind := T.b_form_behind
  have G_put_between := ok_put_between (P := P) (w := w) (base := base) T
  have b_put_between := T.b_put_between
  have G_smooth_fan := ok_smooth_fan (P := P) (w := w) (base := base) T
  have b_smooth_fan := T.b_smooth_fan
  have G_values_on := ok_values_on (P := P) (w := w) (base := base) T
  have b_values_on := T.b_values_on
  have G_round_by_values := ok_round_by_values (P := P) (w := w) (base := base) T
  have b_round_by_values := T.b_round_by_values
  have G__law_due := ok__law_due (P := P) (w := w) (base := base) T
  have b__law_due := T.b__law_due
  have G_is_smooth := ok_is_smooth (P := P) (w := w) (base := base) T
  have b_is_smooth := T.b_is_smooth
  have G_is_round := ok_is_round (P := P) (w := w) (base := base) T
  have b_is_round := T.b_is_round
  have G_is_ray := ok_is_ray (P := P) (w := w) (base := base) T
  have b_is_ray := T.b_is_ray
  obtain ⟨oc0, od0, kV0, doc0, pm0, an0, ct0, osl0, ed0, lk0, hc0⟩ := T.lk__law_right
  rw [ed0] at lk0 ⊢
  refine fng_body lk0 hc0 sc__law_right (spe_len (k := 1) fun ss S post hg => ?_) (fun A outer s H vs Q E hcm hr h => ?_)
  · obtain ⟨k, v, rfl, _⟩ := hg; rfl
  · have hcode : (cxOf CX0 P w K mg base ["pack", "none", "far", "odd", "good", "row", "ray", "fan", "three", "values", "rays", "at", "told", "due"] "_law_right" (defScope s__law_right) T.a__law_right (.ref T.c__law_right) A outer s H E).nox.env.code = .ref T.c__law_right := rfl
    refine ⟨_, PSs.nox (pss_cons (ps_set (i := 1) sc__law_right.nd rfl (by first | exact Or.inl rfl | exact Or.inr rfl) (pe_call G__law_one_of (hr.mono (by decide)) rfl T.m__law_one_of T.k__law_one_of b__law_one_of .nil pass0 (pa_cons (pv 0) (pa_cons (pe_lst (pa_cons pe_non (pa_cons pe_int (pa_cons (pe_tup pa_nil) (pa_cons pe_str (pa_cons (pe_tup (pa_cons (pe_tup (pa_cons (pe_tup (pa_cons pe_int (pa_cons pe_int pa_nil))) pa_nil)) pa_nil)) (pa_cons (pe_tup (pa_cons (pe_tup pa_nil) (pa_cons (pe_tup (pa_cons (pe_tup (pa_cons pe_int (pa_cons pe_int pa_nil))) pa_nil)) pa_nil))) (pa_cons (pe_tup (pa_cons (pe_tup (pa_cons (pe_tup (pa_cons pe_int (pa_cons pe_int pa_nil))) (pa_cons (pe_tup (pa_cons pe_int (pa_cons pe_int pa_nil))) pa_nil))) (pa_cons (pe_tup (pa_cons (pe_tup (pa_cons pe_int (pa_cons pe_int pa_nil))) pa_nil)) pa_nil))) (pa_cons (pe_lst (pa_cons (pe_tup (pa_cons (pe_tup (pa_cons pe_int (pa_cons pe_int pa_nil))) pa_nil)) (pa_cons (pe_tup (pa_cons (pe_tup (pa_cons pe_int (pa_cons pe_int pa_nil))) pa_nil)) pa_nil))) (pa_cons pe_dnewT pa_nil)))))))))) pa_nil)))) (pss_cons (ps_set (i := 2) sc__law_right.nd rfl (by first | exact Or.inl rfl | exact Or.inr rfl) (pe_call G__law_one_of (hr.mono (by decide)) rfl T.m__law_one_of T.k__law_one_of b__law_one_of .nil pass0 (pa_cons (pv 0) (pa_cons (pe_lst (pa_cons (pe_tup (pa_cons (pe_tup (pa_cons (pe_tup (pa_cons pe_int (pa_cons pe_int (pa_cons pe_int pa_nil)))) pa_nil)) (pa_cons (pe_tup (pa_cons (pe_tup (pa_cons pe_int (pa_cons pe_int (pa_cons pe_int pa_nil)))) pa_nil)) pa_nil))) (pa_cons (pe_tup (pa_cons (pe_tup (pa_cons (pe_tup (pa_cons pe_int pa_nil)) pa_nil)) (pa_cons (pe_tup (pa_cons (pe_tup (pa_cons pe_int pa_nil)) pa_nil)) pa_nil))) pa_nil))) pa_nil)))) (pss_cons (ps_set (i := 3) sc__law_right.nd rfl (by first | exact Or.inl rfl | exact Or.inr rfl) (pe_lst (pa_cons pe_non (pa_cons pe_int (pa_cons (pe_tup pa_nil) (pa_cons pe_str (pa_cons (pe_tup (pa_cons (pe_tup (pa_cons pe_int (pa_cons pe_int pa_nil))) pa_nil)) (pa_cons (pe_tup (pa_cons (pe_tup (pa_cons pe_int (pa_cons pe_int pa_nil))) (pa_cons (pe_tup (pa_cons (pe_tup (pa_cons (pe_tup (pa_cons pe_int (pa_cons pe_int pa_nil))) (pa_cons pe_int pa_nil))) pa_nil)) pa_nil))) (pa_cons (pe_tup (pa_cons (pe_tup (pa_cons pe_int (pa_cons pe_int pa_nil))) (pa_cons (pe_tup (pa_cons (pe_tup (pa_cons (pe_tup (pa_cons (pe_un un_neg pe_int) (pa_cons pe_int pa_nil))) (pa_cons pe_int pa_nil))) (pa_cons (pe_tup (pa_cons (pe_tup (pa_cons pe_int (pa_cons pe_int pa_nil))) (pa_cons pe_int pa_nil))) pa_nil))) pa_nil))) (pa_cons (pe_tup (pa_cons (pe_tup (pa_cons pe_int (pa_cons (pe_op op_powW pe_int pe_int) pa_nil))) (pa_cons (pe_tup pa_nil) pa_nil))) (pa_cons pe_dnewT pa_nil))))))))))) (pss_cons (ps_set (i := 3) sc__law_right.nd rfl (by first | exact Or.inl rfl | exact Or.inr rfl) (pe_op op_cat (pv 3) (pe_lst (pa_cons (pe_tup (pa_cons (pe_tup (pa_cons pe_int (pa_cons pe_int pa_nil))) (pa_cons (pe_tup (pa_cons (pe_tup (pa_cons (pe_tup (pa_cons pe_int (pa_cons pe_int pa_nil))) (pa_cons pe_int pa_nil))) (pa_cons (pe_tup (pa_cons (pe_tup (pa_cons (pe_un un_neg pe_int) (pa_cons pe_int pa_nil))) (pa_cons pe_int pa_nil))) pa_nil))) pa_nil))) (pa_cons (pe_tup (pa_cons (pe_tup (pa_cons pe_int (pa_cons pe_int pa_nil))) (pa_cons (pe_tup (pa_cons (pe_tup (pa_cons (pe_tup (pa_cons pe_int (pa_cons pe_int pa_nil))) (pa_cons pe_bl pa_nil))) (pa_cons (pe_tup (pa_cons (pe_tup (pa_cons (pe_un un_neg pe_int) (pa_cons pe_int pa_nil))) (pa_cons pe_bl pa_nil))) pa_nil))) pa_nil))) (pa_cons (pe_tup (pa_cons (pe_tup (pa_cons pe_int (pa_cons pe_int pa_nil))) (pa_cons (pe_lst pa_nil) pa_nil))) pa_nil)))))) (pss_cons (ps_asg (pe_tup (pa_cons (pe_call G__law_one_of (hr.mono (by decide)) rfl T.m__law_one_of T.k__law_one_of b__law_one_of .nil pass0 (pa_cons (pv 0) (pa_cons (pv 3) pa_nil))) (pa_cons (pe_tup (pa_cons (pe_tup (pa_cons pe_int (pa_cons pe_int pa_nil))) (pa_cons (pe_tup (pa_cons (pe_tup (pa_cons (pe_tup (pa_cons pe_int (pa_cons pe_int pa_nil))) (pa_cons pe_int pa_nil))) (pa_cons (pe_tup (pa_cons (pe_tup (pa_cons (pe_un un_neg pe_int) (pa_cons pe_int pa_nil))) (pa_cons pe_int pa_nil))) pa_nil))) pa_nil))) pa_nil))) (pg_tup rfl (pgs_cons (pg_name (i := 3) sc__law_right.nd rfl (by first | exact Or.inl rfl | exact Or.inr rfl)) (pgs_cons (pg_name (i := 4) sc__law_right.nd rfl (by first | exact Or.inl rfl | exact Or.inr rfl)) pgs_nil)))) (pss_cons (ps_set (i := 5) sc__law_right.nd rfl (by first | exact Or.inl rfl | exact Or.inr rfl) (pe_call G__law_one_of (hr.mono (by decide)) rfl T.m__law_one_of T.k__law_one_of b__law_one_of .nil pass0 (pa_cons (pv 0) (pa_cons (pe_lst (pa_cons pe_non (pa_cons pe_int (pa_cons (pe_tup (pa_cons pe_int pa_nil)) (pa_cons (pe_tup (pa_cons pe_int (pa_cons pe_int (pa_cons pe_int pa_nil)))) (pa_cons (pe_lst (pa_cons pe_int (pa_cons pe_int pa_nil))) (pa_cons (pe_tup (pa_cons pe_bl (pa_cons pe_int pa_nil))) (pa_cons (pe_tup (pa_cons pe_int (pa_cons pe_str pa_nil))) (pa_cons (pe_tup (pa_cons (pe_op op_powW pe_int pe_int) (pa_cons pe_int pa_nil))) (pa_cons pe_str pa_nil)))))))))) pa_nil)))) (pss_cons (ps_set (i := 6) sc__law_right.nd rfl (by first | exact Or.inl rfl | exact Or.inr rfl) (pe_call G__law_one_of (hr.mono (by decide)) rfl T.m__law_one_of T.k__law_one_of b__law_one_of .nil pass0 (pa_cons (pv 0) (pa_cons (pe_lst (pa_cons pe_non (pa_cons pe_int (pa_cons (pe_tup (pa_cons pe_int (pa_cons pe_int pa_nil))) (pa_cons (pe_tup (pa_cons pe_int (pa_cons pe_int pa_nil))) (pa_cons (pe_tup (pa_cons pe_int (pa_cons pe_int pa_nil))) (pa_cons (pe_tup (pa_cons pe_int (pa_cons pe_int (pa_cons pe_int pa_nil)))) (pa_cons (pe_lst (pa_cons pe_int (pa_cons pe_int pa_nil))) (pa_cons (pe_tup (pa_cons pe_bl (pa_cons pe_int pa_nil))) (pa_cons (pe_tup (pa_cons (pe_op op_powW pe_int pe_int) (pa_cons pe_int pa_nil))) (pa_cons pe_str pa_nil))))))))))) pa_nil)))) (pss_cons (ps_set (i := 7) sc__law_right.nd rfl (by first | exact Or.inl rfl | exact Or.inr rfl) (pe_lst (pa_cons pe_non (pa_cons (pe_tup pa_nil) (pa_cons (pe_tup (pa_cons (pe_tup (pa_cons pe_int (pa_cons pe_int pa_nil))) (pa_cons (pe_tup (pa_cons pe_int (pa_cons pe_int pa_nil))) pa_nil))) (pa_cons (pe_tup (pa_cons (pe_tup (pa_cons pe_int (pa_cons pe_int pa_nil))) (pa_cons (pe_tup (pa_cons pe_int (pa_cons pe_int pa_nil))) (pa_cons (pe_tup (pa_cons (pe_un un_neg pe_int) (pa_cons pe_int pa_nil))) pa_nil)))) (pa_cons (pe_tup (pa_cons (pe_tup (pa_cons pe_int (pa_cons pe_int pa_nil))) (pa_cons (pe_tup (pa_cons pe_int (pa_cons pe_int pa_nil))) (pa_cons (pe_tup (pa_cons (pe_un un_neg pe_int) (pa_cons (pe_un un_neg pe_int) pa_nil))) pa_nil)))) (pa_cons (pe_lst (pa_cons (pe_tup (pa_cons pe_int (pa_cons pe_int pa_nil))) (pa_cons (pe_tup (pa_cons pe_int (pa_cons pe_int pa_nil))) (pa_cons (pe_tup (pa_cons (pe_un un_neg pe_int) (pa_cons (pe_un un_neg pe_int) pa_nil))) pa_nil)))) (pa_cons pe_str (pa_cons pe_dnewT pa_nil)))))))))) (pss_cons (ps_set (i := 7) sc__law_right.nd rfl (by first | exact Or.inl rfl | exact Or.inr rfl) (pe_call G__law_one_of (hr.mono (by decide)) rfl T.m__law_one_of T.k__law_one_of b__law_one_of .nil pass0 (pa_cons (pv 0) (pa_cons (pe_op op_cat (pv 7) (pe_lst (pa_cons (pe_tup (pa_cons (pe_tup (pa_cons pe_int (pa_cons pe_int pa_nil))) (pa_cons (pe_tup (pa_cons pe_int (pa_cons pe_int pa_nil))) (pa_cons (pe_tup (pa_cons pe_int (pa_cons pe_int pa_nil))) (pa_cons (pe_tup (pa_cons (pe_un un_neg pe_int) (pa_cons (pe_un un_neg pe_int) pa_nil))) (pa_cons (pe_tup (pa_cons pe_int (pa_cons pe_int pa_nil))) pa_nil)))))) (pa_cons (pe_tup (pa_cons (pe_tup (pa_cons pe_int (pa_cons pe_int pa_nil))) (pa_cons (pe_tup (pa_cons pe_int (pa_cons pe_int pa_nil))) (pa_cons (pe_tup (pa_cons (pe_un un_neg pe_int) (pa_cons (pe_un un_neg pe_int) pa_nil))) pa_nil)))) (pa_cons (pe_tup (pa_cons (pe_tup (pa_cons pe_int (pa_cons pe_int pa_nil))) (pa_cons (pe_tup (pa_cons pe_int (pa_cons pe_int pa_nil))) (pa_cons (pe_tup (pa_cons pe_int (pa_cons pe_int pa_nil))) (pa_cons (pe_tup (pa_cons (pe_un un_neg pe_int) (pa_cons (pe_un un_neg pe_int) pa_nil))) pa_nil))))) pa_nil))))) pa_nil)))) (pss_cons (ps_set (i := 8) sc__law_right.nd rfl (by first | exact Or.inl rfl | exact Or.inr rfl) (pe_tup (pa_cons (pe_tup (pa_cons pe_int (pa_cons pe_int pa_nil))) (pa_cons (pe_tup (pa_cons pe_int (pa_cons pe_int pa_nil))) (pa_cons (pe_tup (pa_cons (pe_un un_neg pe_int) (pa_cons (pe_un un_neg pe_int) pa_nil))) pa_nil))))) (pss_cons (ps_set (i := 9) sc__law_right.nd rfl (by first | exact Or.inl rfl | exact Or.inr rfl) (pe_call G__law_one_of (hr.mono (by decide)) rfl T.m__law_one_of T.k__law_one_of b__law_one_of .nil pass0 (pa_cons (pv 0) (pa_cons (pe_lst (pa_cons pe_non (pa_cons (pe_tup pa_nil) (pa_cons (pe_tup (pa_cons pe_int (pa_cons pe_int pa_nil))) (pa_cons (pe_tup (pa_cons pe_int (pa_cons pe_int (pa_cons pe_int (pa_cons pe_int pa_nil))))) (pa_cons (pe_lst (pa_cons pe_int (pa_cons pe_int (pa_cons pe_int pa_nil)))) (pa_cons (pe_tup (pa_cons pe_int (pa_cons pe_int (pa_cons pe_bl pa_nil)))) (pa_cons (pe_tup (pa_cons pe_int (pa_cons pe_int (pa_cons pe_non pa_nil)))) (pa_cons (pe_tup (pa_cons pe_int (pa_cons pe_int (pa_cons (pe_op op_powW pe_int pe_int) pa_nil)))) (pa_cons pe_str (pa_cons pe_int pa_nil))))))))))) pa_nil)))) (pss_cons (ps_set (i := 10) sc__law_right.nd rfl (by first | exact Or.inl rfl | exact Or.inr rfl) (pe_call G__law_one_of (hr.mono (by decide)) rfl T.m__law_one_of T.k__law_one_of b__law_one_of .nil pass0 (pa_cons (pv 0) (pa_cons (pe_lst (pa_cons pe_non (pa_cons pe_int (pa_cons (pe_lst (pa_cons (pe_tup (pa_cons pe_int (pa_cons pe_int pa_nil))) pa_nil)) (pa_cons (pe_tup (pa_cons (pe_tup (pa_cons pe_int (pa_cons pe_int pa_nil))) (pa_cons (pe_tup (pa_cons pe_int (pa_cons pe_int pa_nil))) pa_nil))) (pa_cons (pe_tup (pa_cons (pe_tup (pa_cons pe_int (pa_cons pe_int pa_nil))) pa_nil)) (pa_cons (pe_tup (pa_cons (pe_tup (pa_cons pe_int (pa_cons pe_int pa_nil))) (pa_cons pe_non pa_nil))) (pa_cons (pe_callTy (call_tupK K rfl) (by rfl) T.n_tuple (by decide +kernel) (pa_cons (pe_lc (own := [("at", 11)]) rfl sc__law_right.nd (pi_range1 (by rfl) T.n_range (pa_cons pe_int pa_nil)) (blkOk_by (own := [("at", 11)]) (N := ["pack", "none", "far", "odd", "good", "row", "ray", "fan", "three", "values", "rays", "at", "told", "due"]) (sc := (defScope s__law_right)) (by decide +kernel)) (fun _ _ _ _ _ => (pg_name (i := 11) sc__law_right.nd rfl (by first | exact Or.inl rfl | exact Or.inr rfl))) (fun _ _ _ _ _ => pts_nil) (fun _ _ _ _ _ => (pe_tup (pa_cons pe_int (pa_cons (pv 11) pa_nil))))) pa_nil)) (pa_cons pe_str (pa_cons pe_dnewT pa_nil)))))))))) pa_nil)))) (pss_cons (ps_set (i := 12) sc__law_right.nd rfl (by first | exact Or.inl rfl | exact Or.inr rfl) (pe_lst (pa_cons (lam__law_word (T := T) (k := 7) (tm1 T) (tu1 T) hcm TB hcode (hr.mono (by decide)) rfl (LamX.lamS_by (sc := defScope s__law_right) (by decide +kernel)) rfl (fun _ _ _ _ _ => rfl) (fun A2 outer2 s2 H2 E2 f2 c2 hr2 => (pe_call G_round_of (hr2.mono (by decide)) rfl T.m_round_of T.k_round_of b_round_of .nil (passR (takes_of rfl rfl rfl rfl)) (pa_cons (pv 1) pa_nil)))) pa_nil))) (pss_cons (ps_expr (pe_bm PySem.F.plainAttrs_list PySem.F.slot_list_append PySem.F.type_list_append mt_append (pv 12) (pa_cons (lam__law_word (T := T) (k := 7) (tm1 T) (tu1 T) hcm TB hcode (hr.mono (by decide)) rfl (LamX.lamS_by (sc := defScope s__law_right) (by decide +kernel)) rfl (fun _ _ _ _ _ => rfl) (fun A2 outer2 s2 H2 E2 f2 c2 hr2 => (pe_call G_round_of (hr2.mono (by decide)) rfl T.m_round_of T.k_round_of b_round_of .nil (passR (takes_of rfl rfl rfl rfl)) (pa_cons (pv 2) pa_nil)))) pa_nil))) (pss_cons (ps_expr (pe_bm PySem.F.plainAttrs_list PySem.F.slot_list_append PySem.F.type_list_append mt_append (pv 12) (pa_cons (lam__law_word (T := T) (k := 7) (tm1 T) (tu1 T) hcm TB hcode (hr.mono (by decide)) rfl (LamX.lamS_by (sc := defScope s__law_right) (by decide +kernel)) rfl (fun _ _ _ _ _ => rfl) (fun A2 outer2 s2 H2 E2 f2 c2 hr2 => (pe_call G_value_of_round (hr2.mono (by decide)) rfl T.m_value_of_round T.k_value_of_round b_value_of_round .nil (passR (takes_of rfl rfl rfl rfl)) (pa_cons (pv 3) (pa_cons (pv 5) pa_nil))))) pa_nil))) (pss_cons (ps_expr (pe_bm PySem.F.plainAttrs_list PySem.F.slot_list_append PySem.F.type_list_append mt_append (pv 12) (pa_cons (lam__law_word (T := T) (k := 7) (tm1 T) (tu1 T) hcm TB hcode (hr.mono (by decide)) rfl (LamX.lamS_by (sc := defScope s__law_right) (by decide +kernel)) rfl (fun _ _ _ _ _ => rfl) (fun A2 outer2 s2 H2 E2 f2 c2 hr2 => (pe_call G_value_of_round (hr2.mono (by decide)) rfl T.m_value_of_round T.k_value_of_round b_value_of_round .nil (passR (takes_of rfl rfl rfl rfl)) (pa_cons (pv 4) (pa_cons (pv 5) pa_nil))))) pa_nil))) (pss_cons (ps_expr (pe_bm PySem.F.plainAttrs_list PySem.F.slot_list_append PySem.F.type_list_append mt_append (pv 12) (pa_cons (lam__law_word (T := T) (k := 7) (tm1 T) (tu1 T) hcm TB hcode (hr.mono (by decide)) rfl (LamX.lamS_by (sc := defScope s__law_right) (by decide +kernel)) rfl (fun _ _ _ _ _ => rfl) (fun A2 outer2 s2 H2 E2 f2 c2 hr2 => (pe_call G_form_behind (hr2.mono (by decide)) rfl T.m_form_behind T.k_form_behind b_form_behind .nil (passR (takes_of rfl rfl rfl rfl)) (pa_cons (pv 3) (pa_cons (pv 5) pa_nil))))) pa_nil))) (pss_cons (ps_expr (pe_bm PySem.F.plainAttrs_list PySem.F.slot_list_append PySem.F.type_list_append mt_append (pv 12) (pa_cons (lam__law_word (T := T) (k := 7) (tm1 T) (tu1 T) hcm TB hcode (hr.mono (by decide)) rfl (LamX.lamS_by (sc := defScope s__law_right) (by decide +kernel)) rfl (fun _ _ _ _ _ => rfl) (fun A2 outer2 s2 H2 E2 f2 c2 hr2 => (pe_call G_form_behind (hr2.mono (by decide)) rfl T.m_form_behind T.k_form_behind b_form_behind .nil (passR (takes_of rfl rfl rfl rfl)) (pa_cons (pv 4) (pa_cons (pv 5) pa_nil))))) pa_nil))) (pss_cons (ps_expr (pe_bm PySem.F.plainAttrs_list PySem.F.slot_list_append PySem.F.type_list_append mt_append (pv 12) (pa_cons (lam__law_word (T := T) (k := 7) (tm1 T) (tu1 T) hcm TB hcode (hr.mono (by decide)) rfl (LamX.lamS_by (sc := defScope s__law_right) (by decide +kernel)) rfl (fun _ _ _ _ _ => rfl) (fun A2 outer2 s2 H2 E2 f2 c2 hr2 => (pe_call G_form_behind (hr2.mono (by decide)) rfl T.m_form_behind T.k_form_behind b_form_behind .nil (passR (takes_of rfl rfl rfl rfl)) (pa_cons (pv 4) (pa_cons (pe_tup (pa_cons pe_int (pa_cons pe_int pa_nil))) pa_nil))))) pa_nil))) (pss_cons (ps_set (i := 13) sc__law_right.nd rfl (by first | exact Or.inl rfl | exact Or.inr rfl) (pe_lst (pa_cons pe_str (pa_cons pe_str (pa_cons pe_str (pa_cons pe_str (pa_cons pe_str (pa_cons pe_str (pa_cons pe_str pa_nil))))))))) (pss_cons (ps_expr (pe_bm PySem.F.plainAttrs_list PySem.F.slot_list_append PySem.F.type_list_append mt_append (pv 12) (pa_cons (lam__law_word (T := T) (k := 7) (tm1 T) (tu1 T) hcm TB hcode (hr.mono (by decide)) rfl (LamX.lamS_by (sc := defScope s__law_right) (by decide +kernel)) rfl (fun _ _ _ _ _ => rfl) (fun A2 outer2 s2 H2 E2 f2 c2 hr2 => (pe_call G_put_between (hr2.mono (by decide)) rfl T.m_put_between T.k_put_between b_put_between .nil (passR (takes_of rfl rfl rfl rfl)) (pa_cons (pv 6) (pa_cons (pv 6) pa_nil))))) pa_nil))) (pss_cons (ps_expr (pe_bm PySem.F.plainAttrs_list PySem.F.slot_list_append PySem.F.type_list_append mt_append (pv 12) (pa_cons (lam__law_word (T := T) (k := 7) (tm1 T) (tu1 T) hcm TB hcode (hr.mono (by decide)) rfl (LamX.lamS_by (sc := defScope s__law_right) (by decide +kernel)) rfl (fun _ _ _ _ _ => rfl) (fun A2 outer2 s2 H2 E2 f2 c2 hr2 => (pe_call G_put_between (hr2.mono (by decide)) rfl T.m_put_between T.k_put_between b_put_between .nil (passR (takes_of rfl rfl rfl rfl)) (pa_cons (pe_tup (pa_cons pe_int (pa_cons pe_int pa_nil))) (pa_cons (pv 6) pa_nil))))) pa_nil))) (pss_cons (ps_expr (pe_bm PySem.F.plainAttrs_list PySem.F.slot_list_append PySem.F.type_list_append mt_append (pv 12) (pa_cons (lam__law_word (T := T) (k := 7) (tm1 T) (tu1 T) hcm TB hcode (hr.mono (by decide)) rfl (LamX.lamS_by (sc := defScope s__law_right) (by decide +kernel)) rfl (fun _ _ _ _ _ => rfl) (fun A2 outer2 s2 H2 E2 f2 c2 hr2 => (pe_call G_put_between (hr2.mono (by decide)) rfl T.m_put_between T.k_put_between b_put_between .nil (passR (takes_of rfl rfl rfl rfl)) (pa_cons (pe_tup (pa_cons pe_int (pa_cons pe_int pa_nil))) (pa_cons (pe_call G__law_one_of (hr2.mono (by decide)) rfl T.m__law_one_of T.k__law_one_of b__law_one_of .nil pass0 (pa_cons (pv 0) (pa_cons (pe_lst (pa_cons (pe_tup (pa_cons pe_int (pa_cons pe_int pa_nil))) (pa_cons (pe_tup (pa_cons (pe_un un_neg pe_int) (pa_cons pe_int pa_nil))) (pa_cons (pe_tup (pa_cons pe_int (pa_cons (pe_un un_neg pe_int) pa_nil))) (pa_cons (pe_tup (pa_cons pe_int (pa_cons (pe_un un_neg pe_int) pa_nil))) pa_nil))))) pa_nil))) pa_nil))))) pa_nil))) (pss_cons (ps_expr (pe_bm PySem.F.plainAttrs_list PySem.F.slot_list_append PySem.F.type_list_append mt_append (pv 12) (pa_cons (lam__law_word (T := T) (k := 7) (tm1 T) (tu1 T) hcm TB hcode (hr.mono (by decide)) rfl (LamX.lamS_by (sc := defScope s__law_right) (by decide +kernel)) rfl (fun _ _ _ _ _ => rfl) (fun A2 outer2 s2 H2 E2 f2 c2 hr2 => (pe_call G_smooth_fan (hr2.mono (by decide)) rfl T.m_smooth_fan T.k_smooth_fan b_smooth_fan .nil (passR (takes_of rfl rfl rfl rfl)) (pa_cons (pv 10) pa_nil)))) pa_nil))) (pss_cons (ps_expr (pe_bm PySem.F.plainAttrs_list PySem.F.slot_list_append PySem.F.type_list_append mt_append (pv 12) (pa_cons (lam__law_word (T := T) (k := 7) (tm1 T) (tu1 T) hcm TB hcode (hr.mono (by decide)) rfl (LamX.lamS_by (sc := defScope s__law_right) (by decide +kernel)) rfl (fun _ _ _ _ _ => rfl) (fun A2 outer2 s2 H2 E2 f2 c2 hr2 => (pe_call G_values_on (hr2.mono (by decide)) rfl T.m_values_on T.k_values_on b_values_on .nil (passR (takes_of rfl rfl rfl rfl)) (pa_cons (pv 3) (pa_cons (pv 7) pa_nil))))) pa_nil))) (pss_cons (ps_expr (pe_bm PySem.F.plainAttrs_list PySem.F.slot_list_append PySem.F.type_list_append mt_append (pv 12) (pa_cons (lam__law_word (T := T) (k := 7) (tm1 T) (tu1 T) hcm TB hcode (hr.mono (by decide)) rfl (LamX.lamS_by (sc := defScope s__law_right) (by decide +kernel)) rfl (fun _ _ _ _ _ => rfl) (fun A2 outer2 s2 H2 E2 f2 c2 hr2 => (pe_call G_values_on (hr2.mono (by decide)) rfl T.m_values_on T.k_values_on b_values_on .nil (passR (takes_of rfl rfl rfl rfl)) (pa_cons (pv 4) (pa_cons (pv 7) pa_nil))))) pa_nil))) (pss_cons (ps_expr (pe_bm PySem.F.plainAttrs_list PySem.F.slot_list_append PySem.F.type_list_append mt_append (pv 12) (pa_cons (lam__law_word (T := T) (k := 7) (tm1 T) (tu1 T) hcm TB hcode (hr.mono (by decide)) rfl (LamX.lamS_by (sc := defScope s__law_right) (by decide +kernel)) rfl (fun _ _ _ _ _ => rfl) (fun A2 outer2 s2 H2 E2 f2 c2 hr2 => (pe_call G_round_by_values (hr2.mono (by decide)) rfl T.m_round_by_values T.k_round_by_values b_round_by_values .nil (passR (takes_of rfl rfl rfl rfl)) (pa_cons (pv 7) (pa_cons (pv 9) pa_nil))))) pa_nil))) (pss_cons (ps_expr (pe_bm PySem.F.plainAttrs_list PySem.F.slot_list_append PySem.F.type_list_append mt_append (pv 12) (pa_cons (lam__law_word (T := T) (k := 7) (tm1 T) (tu1 T) hcm TB hcode (hr.mono (by decide)) rfl (LamX.lamS_by (sc := defScope s__law_right) (by decide +kernel)) rfl (fun _ _ _ _ _ => rfl) (fun A2 outer2 s2 H2 E2 f2 c2 hr2 => (pe_call G_round_by_values (hr2.mono (by decide)) rfl T.m_round_by_values T.k_round_by_values b_round_by_values .nil (passR (takes_of rfl rfl rfl rfl)) (pa_cons (pv 8) (pa_cons (pv 9) pa_nil))))) pa_nil))) (pss_cons (ps_set (i := 13) sc__law_right.nd rfl (by first | exact Or.inl rfl | exact Or.inr rfl) (pe_op op_cat (pv 13) (pe_lst (pa_cons pe_str (pa_cons pe_str (pa_cons pe_str (pa_cons pe_str (pa_cons pe_str (pa_cons pe_str (pa_cons pe_str (pa_cons pe_str pa_nil))))))))))) (pss_cons (ps_expr (pe_bm PySem.F.plainAttrs_list PySem.F.slot_list_append PySem.F.type_list_append mt_append (pv 12) (pa_cons (lam__law_word (T := T) (k := 7) (tm1 T) (tu1 T) hcm TB hcode (hr.mono (by decide)) rfl (LamX.lamS_by (sc := defScope s__law_right) (by decide +kernel)) rfl (fun _ _ _ _ _ => rfl) (fun A2 outer2 s2 H2 E2 f2 c2 hr2 => (pe_call G_values_on (hr2.mono (by decide)) rfl T.m_values_on T.k_values_on b_values_on .nil (passR (takes_of rfl rfl rfl rfl)) (pa_cons (pv 4) (pa_cons (pv 8) pa_nil))))) pa_nil))) (pss_cons (ps_expr (pe_bm PySem.F.plainAttrs_list PySem.F.slot_list_append PySem.F.type_list_append mt_append (pv 12) (pa_cons (lam__law_word (T := T) (k := 7) (tm1 T) (tu1 T) hcm TB hcode (hr.mono (by decide)) rfl (LamX.lamS_by (sc := defScope s__law_right) (by decide +kernel)) rfl (fun _ _ _ _ _ => rfl) (fun A2 outer2 s2 H2 E2 f2 c2 hr2 => (pe_call G_value_of_round (hr2.mono (by decide)) rfl T.m_value_of_round T.k_value_of_round b_value_of_round .nil (passR (takes_of rfl rfl rfl rfl)) (pa_cons (pv 4) (pa_cons (pe_tup (pa_cons pe_int (pa_cons pe_int pa_nil))) pa_nil))))) pa_nil))) (pss_cons (ps_if (pt_cmpR (op_neDK K hr.units) (pv 12) (pe_call G__law_due (hr.mono (by decide)) rfl T.m__law_due T.k__law_due b__law_due .nil pass0 (pa_cons (pe_op op_cat (pv 13) (pe_lst (pa_cons pe_str (pa_cons pe_str pa_nil)))) pa_nil)) (nomark _)) (pss_one (ps_ret pe_bl)) pss_nil) (pss_one (ps_ret (pe_and (pe_not (pe_call G_is_smooth (hr.mono (by decide)) rfl T.m_is_smooth T.k_is_smooth b_is_smooth .nil pass0 (pa_cons (pv 7) pa_nil))) (pe_and (pe_or (pe_not (pe_call G_is_round (hr.mono (by decide)) rfl T.m_is_round T.k_is_round b_is_round .nil pass0 (pa_cons (pv 3) pa_nil))) (pe_one (pe_cmpR (op_eqDK K hr.units) (pv 3) (pe_tup (pa_cons (pe_tup (pa_cons pe_int (pa_cons (pe_op op_powW pe_int pe_int) pa_nil))) (pa_cons (pe_tup pa_nil) pa_nil))) (nomark _)))) (pe_one (pe_or (pe_not (pe_call G_is_ray (hr.mono (by decide)) rfl T.m_is_ray T.k_is_ray b_is_ray .nil pass0 (pa_cons (pv 6) pa_nil))) (pe_one (pe_cmpR (op_eqDK K hr.units) (pv 6) (pe_tup (pa_cons (pe_op op_powW pe_int pe_int) (pa_cons pe_int pa_nil))) (nomark _))))))))))))))))))))))))))))))))))))))))), sp_bodyE h fun ss S post hg => ?_⟩
    obtain ⟨k, v, rfl, hk, hT, rfl⟩ := hg
    have hT0 : ∃ u, S = S.set k (vatD u) := ⟨v, (set_id hk).symm⟩
    have hkS : ∀ {v'}, (S.set k (vatD v'))[k]? = some (vatD v') := fun {v'} => set_get hk
    refine sp_setE (eve_pick (S := S) (v := v) (p := fun d => d ∈ NONES) hT0 hk rfl (EvN.ev (en_lst (ds := NONES) ?_ (szd (Nat.le_of_ble_eq_true rfl)))) (by simp [NONES]) (by decide) fun d h => h) fun r S2 ⟨no, e1, hno, v1, e2⟩ => ?_
    · show EvA K _ _ _ [.d (.non), .d (.int 0), .d (.tup []), .d (.str "reading"), .d (.tup [.tup [.tup [.int 0, .int 0]]]), .d (.tup [.tup [], .tup [.tup [.int 0, .int 0]]]), .d (.tup [.tup [.tup [.int 1, .int 0], .tup [.int 0, .int 0]], .tup [.tup [.int 0, .int 0]]]), .d (.lst [.tup [.tup [.int 0, .int 0]], .tup [.tup [.int 0, .int 0]]]), .d (.dd)] _
      (repeat (first | exact ea_nil | apply ea_cons | exact ev_non | exact ev_int | exact ev_str | exact ev_bl | exact ev_dd | exact ev_var rfl | exact ev_un ev_int o_neg | exact ev_big | exact ev_tup (ds := []) ea_nil (Nat.zero_le _) | exact EvN.ev (en_lst (ds := []) ea_nil (Nat.zero_le _)) | apply ev_tup | (apply EvN.ev; apply en_lst) | exact szd (Nat.le_of_ble_eq_true rfl)))
    subst e1 e2
    refine sp_setE (eve_pick (S := S) (v := v1) (p := fun d => d ∈ FARS) ⟨v1, rfl⟩ hkS rfl (EvN.ev (en_lst (ds := FARS) ?_ (szd (Nat.le_of_ble_eq_true rfl)))) (by simp [FARS]) (by decide) fun d h => h) fun r S2 ⟨far, e1, hfa, v2, e2⟩ => ?_
    · show EvA K _ _ _ [.d (.tup [.tup [.tup [.int 0, .int 0, .int 1]], .tup [.tup [.int 0, .int 0, .int 0]]]), .d (.tup [.tup [.tup [.int 1]], .tup [.tup [.int 0]]])] _
      (repeat (first | exact ea_nil | apply ea_cons | exact ev_non | exact ev_int | exact ev_str | exact ev_bl | exact ev_dd | exact ev_var rfl | exact ev_un ev_int o_neg | exact ev_big | exact ev_tup (ds := []) ea_nil (Nat.zero_le _) | exact EvN.ev (en_lst (ds := []) ea_nil (Nat.zero_le _)) | apply ev_tup | (apply EvN.ev; apply en_lst) | exact szd (Nat.le_of_ble_eq_true rfl)))
    subst e1 e2
    refine sp_set (S1 := S.set k (vatD v2)) (x := .d (.lst ODD1)) (EvN.ev (en_lst (ds := ODD1) ?_ (szd (Nat.le_of_ble_eq_true rfl)))) ?_
    · show EvA K _ _ _ [.d (.non), .d (.int 0), .d (.tup []), .d (.str "round"), .d (.tup [.tup [.int 0, .int 0]]), .d (.tup [.tup [.int 0, .int 0], .tup [.tup [.tup [.int 1, .int 0], .int 1]]]), .d (.tup [.tup [.int 0, .int 0], .tup [.tup [.tup [.int (-1), .int 0], .int 1], .tup [.tup [.int 1, .int 0], .int 1]]]), .d (.tup [.tup [.int 0, .int T10], .tup []]), .d (.dd)] _
      (repeat (first | exact ea_nil | apply ea_cons | exact ev_non | exact ev_int | exact ev_str | exact ev_bl | exact ev_dd | exact ev_var rfl | exact ev_un ev_int o_neg | exact ev_big | exact ev_tup (ds := []) ea_nil (Nat.zero_le _) | exact EvN.ev (en_lst (ds := []) ea_nil (Nat.zero_le _)) | apply ev_tup | (apply EvN.ev; apply en_lst) | exact szd (Nat.le_of_ble_eq_true rfl)))
    refine sp_set (S1 := S.set k (vatD v2)) (x := .d (.lst (ODD1 ++ ODD2))) (EvN.ev (en_cat (ds := ODD1) (es := ODD2) (ev_var rfl) (EvN.ev (en_lst (ds := ODD2) ?_ (szd (Nat.le_of_ble_eq_true rfl)))) .lst .lst (szd (Nat.le_of_ble_eq_true rfl)))) ?_
    · show EvA K _ _ _ [.d (.tup [.tup [.int 0, .int 0], .tup [.tup [.tup [.int 2, .int 0], .int 1], .tup [.tup [.int (-2), .int 0], .int 1]]]), .d (.tup [.tup [.int 0, .int 0], .tup [.tup [.tup [.int 1, .int 0], .bl true], .tup [.tup [.int (-1), .int 0], .bl true]]]), .d (.tup [.tup [.int 0, .int 0], .lst []])] _
      (repeat (first | exact ea_nil | apply ea_cons | exact ev_non | exact ev_int | exact ev_str | exact ev_bl | exact ev_dd | exact ev_var rfl | exact ev_un ev_int o_neg | exact ev_big | exact ev_tup (ds := []) ea_nil (Nat.zero_le _) | exact EvN.ev (en_lst (ds := []) ea_nil (Nat.zero_le _)) | apply ev_tup | (apply EvN.ev; apply en_lst) | exact szd (Nat.le_of_ble_eq_true rfl)))
    refine sp_asgE (f := fun d env => match d with | .tup [a, b] => (env.set 3 (some (.d a))).set 4 (some (.d b)) | _ => env) (is := [3, 4]) (post := fun r T => ∃ (a : Dat) (v' : Vt), r = .d (.tup [a, GOODT]) ∧ a ∈ ODD1 ++ ODD2 ∧ T = S.set k (vatD v')) (eve_tup (eae_cons (eve_pick (S := S) (v := v2) (p := fun d => d ∈ ODD1 ++ ODD2) ⟨v2, rfl⟩ hkS rfl (ev_var rfl) (by simp [ODD1]) (by decide) fun d h => h) fun x S1 ⟨d, e1, h1, v2', h2⟩ => eae_cons ((show Ev K _ _ S1 (.d GOODT) S1 from ?_).e1 (post := fun r T => r = .d GOODT ∧ T = S1) ⟨rfl, rfl⟩) fun y S2 ⟨e3, h4⟩ => eae_nil ⟨[d, GOODT], by rw [e1, e3]; rfl, (szd (Nat.le_of_ble_eq_true rfl)), d, v2', rfl, h1, by rw [h4, h2]⟩)) fun r S1 ⟨odd, v3, e1, ho, e2⟩ => ⟨_, e1, tg_pair, ?_⟩
    · apply ev_tup
      · show EvA K _ _ _ [.d (.tup [.int 0, .int 0]), .d (.tup [.tup [.tup [.int 1, .int 0], .int 1], .tup [.tup [.int (-1), .int 0], .int 1]])] _
        (repeat (first | exact ea_nil | apply ea_cons | exact ev_non | exact ev_int | exact ev_str | exact ev_bl | exact ev_dd | exact ev_var rfl | exact ev_un ev_int o_neg | exact ev_big | exact ev_tup (ds := []) ea_nil (Nat.zero_le _) | exact EvN.ev (en_lst (ds := []) ea_nil (Nat.zero_le _)) | apply ev_tup | (apply EvN.ev; apply en_lst) | exact szd (Nat.le_of_ble_eq_true rfl)))
      · exact (szd (Nat.le_of_ble_eq_true rfl))
    subst e2
    refine sp_setE (eve_pick (S := S) (v := v3) (p := fun d => d ∈ ROWS) ⟨v3, rfl⟩ hkS rfl (EvN.ev (en_lst (ds := ROWS) ?_ (szd (Nat.le_of_ble_eq_true rfl)))) (by simp [ROWS]) (by decide) fun d h => h) fun r S2 ⟨row, e1, hro, v4, e2⟩ => ?_
    · show EvA K _ _ _ [.d (.non), .d (.int 0), .d (.tup [.int 1]), .d (.tup [.int 1, .int 2, .int 3]), .d (.lst [.int 1, .int 2]), .d (.tup [.bl true, .int 0]), .d (.tup [.int 1, .str "0"]), .d (.tup [.int T10, .int 0]), .d (.str "ab")] _
      (repeat (first | exact ea_nil | apply ea_cons | exact ev_non | exact ev_int | exact ev_str | exact ev_bl | exact ev_dd | exact ev_var rfl | exact ev_un ev_int o_neg | exact ev_big | exact ev_tup (ds := []) ea_nil (Nat.zero_le _) | exact EvN.ev (en_lst (ds := []) ea_nil (Nat.zero_le _)) | apply ev_tup | (apply EvN.ev; apply en_lst) | exact szd (Nat.le_of_ble_eq_true rfl)))
    subst e1 e2
    refine sp_setE (eve_pick (S := S) (v := v4) (p := fun d => d ∈ RAYM) ⟨v4, rfl⟩ hkS rfl (EvN.ev (en_lst (ds := RAYM) ?_ (szd (Nat.le_of_ble_eq_true rfl)))) (by simp [RAYM]) (by decide) fun d h => h) fun r S2 ⟨ray, e1, hra, v5, e2⟩ => ?_
    · show EvA K _ _ _ [.d (.non), .d (.int 0), .d (.tup [.int 0, .int 0]), .d (.tup [.int 2, .int 0]), .d (.tup [.int 2, .int 4]), .d (.tup [.int 1, .int 0, .int 0]), .d (.lst [.int 1, .int 0]), .d (.tup [.bl true, .int 0]), .d (.tup [.int T10, .int 1]), .d (.str "ray")] _
      (repeat (first | exact ea_nil | apply ea_cons | exact ev_non | exact ev_int | exact ev_str | exact ev_bl | exact ev_dd | exact ev_var rfl | exact ev_un ev_int o_neg | exact ev_big | exact ev_tup (ds := []) ea_nil (Nat.zero_le _) | exact EvN.ev (en_lst (ds := []) ea_nil (Nat.zero_le _)) | apply ev_tup | (apply EvN.ev; apply en_lst) | exact szd (Nat.le_of_ble_eq_true rfl)))
    subst e1 e2
    refine sp_set (S1 := S.set k (vatD v5)) (x := .d (.lst FAN1)) (EvN.ev (en_lst (ds := FAN1) ?_ (szd (Nat.le_of_ble_eq_true rfl)))) ?_
    · show EvA K _ _ _ [.d (.non), .d (.tup []), .d (.tup [.tup [.int 1, .int 0], .tup [.int 0, .int 1]]), .d (.tup [.tup [.int 1, .int 0], .tup [.int 0, .int 1], .tup [.int (-1), .int 0]]), .d (.tup [.tup [.int 0, .int 1], .tup [.int 1, .int 0], .tup [.int (-1), .int (-1)]]), .d (.lst [.tup [.int 1, .int 0], .tup [.int 0, .int 1], .tup [.int (-1), .int (-1)]]), .d (.str "fan"), .d (.dd)] _
      (repeat (first | exact ea_nil | apply ea_cons | exact ev_non | exact ev_int | exact ev_str | exact ev_bl | exact ev_dd | exact ev_var rfl | exact ev_un ev_int o_neg | exact ev_big | exact ev_tup (ds := []) ea_nil (Nat.zero_le _) | exact EvN.ev (en_lst (ds := []) ea_nil (Nat.zero_le _)) | apply ev_tup | (apply EvN.ev; apply en_lst) | exact szd (Nat.le_of_ble_eq_true rfl)))
    refine sp_setE (eve_pick (S := S) (v := v5) (p := fun d => d ∈ FAN1 ++ FAN2) ⟨v5, rfl⟩ hkS rfl (EvN.ev (en_cat (ds := FAN1) (es := FAN2) (ev_var rfl) (EvN.ev (en_lst (ds := FAN2) ?_ (szd (Nat.le_of_ble_eq_true rfl)))) .lst .lst (szd (Nat.le_of_ble_eq_true rfl)))) (by simp [FAN1]) (by decide) fun d h => h) fun r S2 ⟨fan, e1, hfn, v6, e2⟩ => ?_
    · show EvA K _ _ _ [.d (.tup [.tup [.int 1, .int 0], .tup [.int 1, .int 1], .tup [.int 0, .int 1], .tup [.int (-1), .int (-1)], .tup [.int 1, .int 0]]), .d (.tup [.tup [.int 1, .int 0], .tup [.int 0, .int 1], .tup [.int (-1), .int (-2)]]), .d (.tup [.tup [.int 1, .int 0], .tup [.int 2, .int 1], .tup [.int 0, .int 1], .tup [.int (-1), .int (-1)]])] _
      (repeat (first | exact ea_nil | apply ea_cons | exact ev_non | exact ev_int | exact ev_str | exact ev_bl | exact ev_dd | exact ev_var rfl | exact ev_un ev_int o_neg | exact ev_big | exact ev_tup (ds := []) ea_nil (Nat.zero_le _) | exact EvN.ev (en_lst (ds := []) ea_nil (Nat.zero_le _)) | apply ev_tup | (apply EvN.ev; apply en_lst) | exact szd (Nat.le_of_ble_eq_true rfl)))
    subst e1 e2
    refine sp_set (S1 := S.set k (vatD v6)) (x := .d THREE) ?_ ?_
    · apply ev_tup
      · show EvA K _ _ _ [.d (.tup [.int 1, .int 0]), .d (.tup [.int 0, .int 1]), .d (.tup [.int (-1), .int (-1)])] _
        (repeat (first | exact ea_nil | apply ea_cons | exact ev_non | exact ev_int | exact ev_str | exact ev_bl | exact ev_dd | exact ev_var rfl | exact ev_un ev_int o_neg | exact ev_big | exact ev_tup (ds := []) ea_nil (Nat.zero_le _) | exact EvN.ev (en_lst (ds := []) ea_nil (Nat.zero_le _)) | apply ev_tup | (apply EvN.ev; apply en_lst) | exact szd (Nat.le_of_ble_eq_true rfl)))
      · exact (szd (Nat.le_of_ble_eq_true rfl))
    refine sp_setE (eve_pick (S := S) (v := v6) (p := fun d => d ∈ VALS) ⟨v6, rfl⟩ hkS rfl (EvN.ev (en_lst (ds := VALS) ?_ (szd (Nat.le_of_ble_eq_true rfl)))) (by simp [VALS]) (by decide) fun d h => h) fun r S2 ⟨vals, e1, hva, v7, e2⟩ => ?_
    · show EvA K _ _ _ [.d (.non), .d (.tup []), .d (.tup [.int 1, .int 2]), .d (.tup [.int 1, .int 2, .int 3, .int 4]), .d (.lst [.int 1, .int 2, .int 3]), .d (.tup [.int 1, .int 2, .bl true]), .d (.tup [.int 1, .int 2, .non]), .d (.tup [.int 1, .int 2, .int T10]), .d (.str "abc"), .d (.int 3)] _
      (repeat (first | exact ea_nil | apply ea_cons | exact ev_non | exact ev_int | exact ev_str | exact ev_bl | exact ev_dd | exact ev_var rfl | exact ev_un ev_int o_neg | exact ev_big | exact ev_tup (ds := []) ea_nil (Nat.zero_le _) | exact EvN.ev (en_lst (ds := []) ea_nil (Nat.zero_le _)) | apply ev_tup | (apply EvN.ev; apply en_lst) | exact szd (Nat.le_of_ble_eq_true rfl)))
    subst e1 e2
    refine sp_setE (eve_pick (S := S) (v := v7) (p := fun d => d ∈ RAYL) ⟨v7, rfl⟩ hkS rfl (EvN.ev (en_lst (ds := RAYL) ?_ (szd (Nat.le_of_ble_eq_true rfl)))) (by simp [RAYL]) (by decide) fun d h => h) fun r S2 ⟨rays, e1, hrl, v8, e2⟩ => ?_
    · show EvA K _ _ _ [.d (.non), .d (.int 0), .d (.lst [.tup [.int 1, .int 0]]), .d (.tup [.tup [.int 1, .int 0], .tup [.int 1, .int 0]]), .d (.tup [.tup [.int 2, .int 0]]), .d (.tup [.tup [.int 1, .int 0], .non]), .d (R65), .d (.str "rays"), .d (.dd)] _
      (repeat (first | exact ea_nil | apply ea_cons | exact ev_non | exact ev_int | exact ev_str | exact ev_bl | exact ev_dd | exact ev_var rfl | exact ev_un ev_int o_neg | exact ev_big | exact ev_tup (ds := []) ea_nil (Nat.zero_le _) | exact EvN.ev (en_lst (ds := []) ea_nil (Nat.zero_le _)) | apply ev_tup | (apply EvN.ev; apply en_lst) | exact szd (Nat.le_of_ble_eq_true rfl)))
      exact ev_cb (ea_cons (EvN.ev (en_mapA (xs := List.range 65) (g := fun i => Dat.int (0 + (i : Nat))) (is := [11]) (fun i => Dat.tup [.int 1, .int (0 + (i : Nat))]) (it_rangeN (m := 65) (ea_cons ev_int ea_nil) (by omega)) (szd (by decide)) (fun _ _ => trivial) (by decide) (fun i env => env.set 11 (some (.d (.int (0 + (i : Nat)))))) fun i hi => ⟨tg_name, ev_tup (ds := [.int 1, .int (0 + (i : Nat))]) (ea_cons ev_int (ea_cons (ev_var rfl) ea_nil)) (szd (Nat.le_of_ble_eq_true rfl))⟩)) ea_nil) (cd_tup .lst)
      (repeat (first | exact ea_nil | apply ea_cons | exact ev_non | exact ev_int | exact ev_str | exact ev_bl | exact ev_dd | exact ev_var rfl | exact ev_un ev_int o_neg | exact ev_big | exact ev_tup (ds := []) ea_nil (Nat.zero_le _) | exact EvN.ev (en_lst (ds := []) ea_nil (Nat.zero_le _)) | apply ev_tup | (apply EvN.ev; apply en_lst) | exact szd (Nat.le_of_ble_eq_true rfl)))
    subst e1 e2
    have kno := nones_kd _ hno
    have xno := nones_no _ hno
    have kfa := fars_kd _ hfa
    have xfa := fars_ok _ hfa
    have kod : KD odd := (List.mem_append.mp ho).elim (odd1_kd odd) (odd2_kd odd)
    have xod : toldOk odd = false ∧ smT odd = true := (List.mem_append.mp ho).elim (odd1_no odd) (odd2_no odd)
    have yod : roundB odd = false ∨ odd = XXD := (List.mem_append.mp ho).elim (odd1_r odd) (odd2_r odd)
    have kro := rows_kd _ hro
    have xro := rows_no _ hro
    have kra := raym_kd _ hra
    have xra := raym_no _ hra
    have yra := raym_r _ hra
    have kfn : KD fan := (List.mem_append.mp hfn).elim (fan1_kd fan) (fan2_kd fan)
    have xfn : smoothB fan = false ∧ smF fan = true := (List.mem_append.mp hfn).elim (fan1_no fan) (fan2_no fan)
    have kva := vals_kd _ hva
    have xva := vals_no _ hva
    have krl := rayl_kd _ hrl
    have xrl := rayl_no _ hrl
    refine sp_env (env' := [some (.c k), some (.d no), some (.d far), some (.d odd), some (.d GOODT), some (.d row), some (.d ray), some (.d fan), some (.d THREE), some (.d vals), some (.d rays), Option.none, Option.none, Option.none]) rfl ?_
    have hT4 : AllTabs (tabs T) (S.set k (vatD v8)) := at_setl hT hk
    have hk4 : (S.set k (vatD v8))[k]? = some (vatD v8) := hkS
    have hlen : (S.set k (vatD v8)).length = S.length := List.length_set ..
    have e4 : ∀ v', (S.set k (vatD v8)).set k (vatD v') = S.set k (vatD v') := fun v' => by rw [List.set_set]
    generalize S.set k (vatD v8) = S4 at hT4 hlen hk4 e4 ⊢
    have hkl : k < S4.length := (List.getElem?_eq_some_iff.mp hk4).1
    have tRd : ∀ H : Hp, RS T H T.a_InvalidReading Option.none (.t (toldV "reading")) := fun H => .rd
    have tRow : ∀ H : Hp, RS T H T.a_InvalidRow Option.none (.t (toldV "row")) := fun H => .row
    have tOpn : ∀ H : Hp, RS T H T.a_InvalidOperation Option.none (.t (toldV "operation")) := fun H => .op
    have hT5 : ∀ {xs : List Dat}, AllTabs (tabs T) (S4 ++ [Dat.lst xs]) := fun {xs} => at_app hT4
    have eO : ∀ {env : Env1} {S : List Dat}, Ev K (tTup (tCons (tC (.int 0)) (tCons (tC (.int 0)) tNil))) env S (.d ORIG) S := fun {env S} => ev_tup (ds := [.int 0, .int 0]) (ea_cons ev_int (ea_cons ev_int ea_nil)) (szd (Nat.le_of_ble_eq_true rfl))
    have e1O : ∀ {env : Env1} {S : List Dat}, Ev K (tTup (tCons (tC (.int 1)) (tCons (tC (.int 0)) tNil))) env S (.d (prD (1, 0))) S := fun {env S} => ev_tup (ds := [.int 1, .int 0]) (ea_cons ev_int (ea_cons ev_int ea_nil)) (szd (Nat.le_of_ble_eq_true rfl))
    have k1O : KD (prD (1, 0)) := by (repeat (first | exact kn | (refine kc ?_ ?_) | assumption | exact KD.non | exact KD.bl _ | exact KD.int _ | exact KD.str _ | exact KD.dd | refine KD.tup ?_ (Nat.le_of_ble_eq_true rfl) | refine KD.lst ?_ (Nat.le_of_ble_eq_true rfl)))
    refine sp_setC (S1 := S4) (ds := [toldD "reading"]) (en_lst (ea_cons (ev_met0 (met_ok T) hT4 (fun E => ev_callX (ea_cons (ev_var rfl) ea_nil) ⟨no, rfl, kno, .inl ⟨xno, rfl⟩, rfl⟩) (rep_told K _) tRd) ea_nil) (szd (Nat.le_of_ble_eq_true rfl))) ?_
    refine sp_env (env' := [some (.c k), some (.d no), some (.d far), some (.d odd), some (.d GOODT), some (.d row), some (.d ray), some (.d fan), some (.d THREE), some (.d vals), some (.d rays), Option.none, some (.c S4.length), Option.none]) rfl ?_
    refine sp_tellM (G := []) rfl (ev_met0 (met_ok T) hT5 (fun E => ev_callX (ea_cons (ev_var rfl) ea_nil) ⟨far, rfl, kfa, .inr ⟨xfa.1, of_decide_eq_false xfa.2, rfl⟩, rfl⟩) (rep_told K _) tOpn) (Nat.le_of_ble_eq_true rfl) ?_
    refine sp_tellM (G := []) rfl (ev_met0 (met_ok T) hT5 (fun E => ev_callX (ea_cons (ev_var rfl) (ea_cons (ev_var rfl) ea_nil)) ⟨odd, row, rfl, kod, kro, xod.2, .inl ⟨xod.1, rfl⟩, rfl⟩) (rep_told K _) tOpn) (Nat.le_of_ble_eq_true rfl) ?_
    refine sp_tellM (G := []) rfl (ev_met0 (met_ok T) hT5 (fun E => ev_callX (ea_cons (ev_var rfl) (ea_cons (ev_var rfl) ea_nil)) ⟨GOODT, row, rfl, good_kd, kro, rfl, .inr (.inl ⟨rfl, xro, rfl⟩), rfl⟩) (rep_told K _) tRow) (Nat.le_of_ble_eq_true rfl) ?_
    refine sp_tellM (G := []) rfl (ev_met0 (met_ok T) hT5 (fun E => ev_callX (ea_cons (ev_var rfl) (ea_cons (ev_var rfl) ea_nil)) ⟨odd, row, rfl, kod, kro, xod.2, .inl ⟨xod.1, rfl⟩, rfl⟩) (rep_told K _) tOpn) (Nat.le_of_ble_eq_true rfl) ?_
    refine sp_tellM (G := []) rfl (ev_met0 (met_ok T) hT5 (fun E => ev_callX (ea_cons (ev_var rfl) (ea_cons (ev_var rfl) ea_nil)) ⟨GOODT, row, rfl, good_kd, kro, rfl, .inr (.inl ⟨rfl, xro, rfl⟩), rfl⟩) (rep_told K _) tRow) (Nat.le_of_ble_eq_true rfl) ?_
    refine sp_tellM (G := []) rfl (ev_met0 (met_ok T) hT5 (fun E => ev_callX (ea_cons (ev_var rfl) (ea_cons eO ea_nil)) ⟨GOODT, ORIG, rfl, good_kd, kd_orig, rfl, .inr (.inr ⟨rfl, rfl, rfl⟩), rfl⟩) (rep_told K _) tOpn) (Nat.le_of_ble_eq_true rfl) ?_
    refine sp_set (x := .d (.lst (WA.map Dat.str))) (S1 := S4 ++ [.lst (WA.map toldD)]) (EvN.ev (en_lst (ds := WA.map Dat.str) (ea_cons ev_str (ea_cons ev_str (ea_cons ev_str (ea_cons ev_str (ea_cons ev_str (ea_cons ev_str (ea_cons ev_str ea_nil))))))) (szd (Nat.le_of_ble_eq_true rfl)))) ?_
    refine sp_env_S (S' := S4 ++ (.lst (WA.map toldD) :: [])) rfl ?_
    refine sp_tellM (G := []) rfl (ev_met0 (met_ok T) hT5 (fun E => ev_callX (ea_cons (ev_var rfl) (ea_cons (ev_var rfl) ea_nil)) ⟨ray, ray, rfl, kra, kra, .inl ⟨xra, rfl⟩, rfl⟩) (rep_told K _) tRow) (Nat.le_of_ble_eq_true rfl) ?_
    refine sp_tellM (G := []) rfl (ev_met0 (met_ok T) hT5 (fun E => ev_callX (ea_cons e1O (ea_cons (ev_var rfl) ea_nil)) ⟨prD (1, 0), ray, rfl, k1O, kra, .inr (.inl ⟨one_ok, xra, rfl⟩), rfl⟩) (rep_told K _) tRow) (Nat.le_of_ble_eq_true rfl) ?_
    -- a ray is drawn within the call
    obtain ⟨v9, hv9⟩ : ∃ v9, (drawF v8 4).2 = v9 := ⟨_, rfl⟩
    have hk5 : (S4.set k (vatD v9))[k]? = some (vatD v9) := set_get hk4
    have hT5' : AllTabs (tabs T) (S4.set k (vatD v9)) := at_setl hT4 hk4
    have hlen5 : (S4.set k (vatD v9)).length = S.length := by rw [List.length_set, hlen]
    have e5 : ∀ v', (S4.set k (vatD v9)).set k (vatD v') = S.set k (vatD v') := fun v' => by rw [List.set_set, e4]
    have elen : S4.length = (S4.set k (vatD v9)).length := (List.length_set ..).symm
    refine sp_drop (ev_append (S2 := S4.set k (vatD v9) ++ [.lst (WA.map toldD ++ [toldD "row", toldD "row"])]) (ds := WA.map toldD ++ [toldD "row", toldD "row"]) (d := toldD "operation") (k := S4.length) (ev_var rfl) (ev_met0 (met_ok T) hT5 (fun E => evx_put (k := k) (v := v8) (v5 := v9) hv9 hk4 hkl rfl e1O (fun {S} => EvN.ev (en_lst (ds := PUTS.map prD) ?_ (szd (Nat.le_of_ble_eq_true rfl))))) (rep_told K _) tOpn) ⟨_, get_app⟩ (by rw [elen]; exact get_app) (Nat.lt_of_le_of_lt (show _ ≤ 30 from Nat.le_of_ble_eq_true rfl) (by decide))) ?_
    · show EvA K _ _ _ [.d (.tup [.int 1, .int 0]), .d (.tup [.int (-1), .int 0]), .d (.tup [.int 0, .int (-1)]), .d (.tup [.int 5, .int (-1)])] _
      (repeat (first | exact ea_nil | apply ea_cons | exact ev_non | exact ev_int | exact ev_str | exact ev_bl | exact ev_dd | exact ev_var rfl | exact ev_un ev_int o_neg | exact ev_big | exact ev_tup (ds := []) ea_nil (Nat.zero_le _) | exact EvN.ev (en_lst (ds := []) ea_nil (Nat.zero_le _)) | apply ev_tup | (apply EvN.ev; apply en_lst) | exact szd (Nat.le_of_ble_eq_true rfl)))
    refine sp_env_S (S' := S4.set k (vatD v9) ++ (.lst (WA.map toldD ++ [toldD "row", toldD "row"] ++ [toldD "operation"]) :: [])) (by rw [elen]; exact set_app) ?_
    refine sp_env (env' := [some (.c k), some (.d no), some (.d far), some (.d odd), some (.d GOODT), some (.d row), some (.d ray), some (.d fan), some (.d THREE), some (.d vals), some (.d rays), Option.none, some (.c (S4.set k (vatD v9)).length), some (.d (.lst (WA.map Dat.str)))]) (by rw [← elen]; rfl) ?_
    generalize S4.set k (vatD v9) = S5 at hk5 hT5' hlen5 e5
    clear hT5 elen
    have hT6 : ∀ {xs : List Dat}, AllTabs (tabs T) (S5 ++ [Dat.lst xs]) := fun {xs} => at_app hT5'
    refine sp_tellM (G := []) rfl (ev_met0 (met_ok T) hT6 (fun E => ev_callX (ea_cons (ev_var rfl) ea_nil) ⟨rays, rfl, krl, xrl.elim (fun h => .inl ⟨h, rfl⟩) (fun h => .inr (.inl ⟨h, rfl⟩)), rfl⟩) (rep_told K _) tOpn) (Nat.le_of_ble_eq_true rfl) ?_
    refine sp_tellM (G := []) rfl (ev_met0 (met_ok T) hT6 (fun E => ev_callX (ea_cons (ev_var rfl) (ea_cons (ev_var rfl) ea_nil)) ⟨odd, fan, rfl, kod, kfn, xod.2, xfn.2, .inl ⟨xod.1, rfl⟩, rfl⟩) (rep_told K _) tOpn) (Nat.le_of_ble_eq_true rfl) ?_
    refine sp_tellM (G := []) rfl (ev_met0 (met_ok T) hT6 (fun E => ev_callX (ea_cons (ev_var rfl) (ea_cons (ev_var rfl) ea_nil)) ⟨GOODT, fan, rfl, good_kd, kfn, rfl, xfn.2, .inr (.inl ⟨rfl, xfn.1, rfl⟩), rfl⟩) (rep_told K _) tOpn) (Nat.le_of_ble_eq_true rfl) ?_
    refine sp_tellM (G := []) rfl (ev_met0 (met_ok T) hT6 (fun E => ev_callX (ea_cons (ev_var rfl) (ea_cons (ev_var rfl) ea_nil)) ⟨fan, vals, rfl, kfn, kva, xfn.2, .inl ⟨xfn.1, rfl⟩, rfl⟩) (rep_told K _) tOpn) (Nat.le_of_ble_eq_true rfl) ?_
    refine sp_tellM (G := []) rfl (ev_met0 (met_ok T) hT6 (fun E => ev_callX (ea_cons (ev_var rfl) (ea_cons (ev_var rfl) ea_nil)) ⟨THREE, vals, rfl, three_kd, kva, rfl, .inr ⟨rfl, xva, rfl⟩, rfl⟩) (rep_told K _) tOpn) (Nat.le_of_ble_eq_true rfl) ?_
    refine sp_env_S (S' := S5 ++ [.lst ((WA ++ WB).map toldD)]) rfl ?_
    refine sp_set (x := .d (.lst ((WA ++ WB).map Dat.str))) (S1 := S5 ++ [.lst ((WA ++ WB).map toldD)]) (Ev.to (EvN.ev (en_cat (ds := WA.map Dat.str) (es := WB.map Dat.str) (ev_var rfl) (EvN.ev (en_lst (ds := WB.map Dat.str) (ea_cons ev_str (ea_cons ev_str (ea_cons ev_str (ea_cons ev_str (ea_cons ev_str (ea_cons ev_str (ea_cons ev_str (ea_cons ev_str ea_nil)))))))) (szd (Nat.le_of_ble_eq_true rfl)))) .lst .lst (szd (Nat.le_of_ble_eq_true rfl)))) (by rw [List.map_append])) ?_
    refine sp_env_S (S' := S5 ++ (.lst ((WA ++ WB).map toldD) :: [])) rfl ?_
    refine sp_tellM (G := []) rfl (ev_metH (met_ok T) hT6 (fun E => ev_callR (ea_cons (ev_var rfl) (ea_cons (ev_var rfl) ea_nil)) ⟨GOODT, THREE, rfl, good_kd, three_kd, rfl, rfl, .inr (.inr ⟨rfl, rfl, rfl⟩), rfl⟩) (rep_let K)) (Nat.le_of_ble_eq_true rfl) ?_
    refine sp_tellM (G := []) rfl (ev_metH (met_ok T) hT6 (fun E => ev_callR (ea_cons (ev_var rfl) (ea_cons eO ea_nil)) ⟨GOODT, ORIG, rfl, good_kd, kd_orig, rfl, .inr (.inr ⟨rfl, rfl, rfl⟩), rfl⟩) (rep_let K)) (Nat.le_of_ble_eq_true rfl) ?_
    refine sp_env_S (S' := S5 ++ [.lst (((WA ++ WB).map toldD ++ [letD]) ++ [letD])]) rfl ?_
    refine sp_ifq (S1 := S5 ++ [.lst (((WA ++ WB).map toldD ++ [letD]) ++ [letD])]) (b := false) (et_test (Ev.to (ev_op (ev_var rfl) (Ev.to (ev_call (ea_cons (Ev.to (EvN.ev (en_cat (ds := (WA ++ WB).map Dat.str) (es := WC.map Dat.str) (ev_var rfl) (EvN.ev (en_lst (ds := WC.map Dat.str) (ea_cons ev_str (ea_cons ev_str ea_nil)) (szd (Nat.le_of_ble_eq_true rfl)))) .lst .lst (szd (Nat.le_of_ble_eq_true rfl)))) (congrArg (fun l => Sl.d (.lst l)) (List.map_append (f := Dat.str)).symm)) ea_nil) ⟨(WA ++ WB) ++ WC, rfl, by decide, rfl, rfl⟩) (congrArg (fun l => Sl.d (.lst l)) due_is)) (op2_neD (plS_c pl_all get_app) (plS_d pl_all) (by decide) (by decide))) (congrArg (fun b => Sl.d (Dat.bl (!b))) (eqD_refl pl_all)))) (fun h => by cases h) fun _ => sp_nextq ?_
    refine sp_ret (d := .bl true) (ev_andV (a := true) (b := true) (ev_notV (a := false) (Ev.to (ev_call (G := gSmooth) (ea_cons (ev_var rfl) ea_nil) ⟨fan, rfl, kfn, xfn.2, rfl, rfl⟩) (congrArg (fun b => Sl.d (Dat.bl b)) xfn.1))) fun _ => ev_andV (a := true) (b := true) ?_ fun _ => ?_) ⟨rfl, v9, ?_⟩
    · rcases yod with h | rfl
      · exact ev_orV (a := true) (b := true) (ev_notV (a := false) (Ev.to (ev_call (G := gRound) (ea_cons (ev_var rfl) ea_nil) ⟨odd, rfl, kod, xod.2, rfl, rfl⟩) (congrArg (fun b => Sl.d (Dat.bl b)) h))) fun h => by cases h
      · exact Ev.to (ev_orV (a := !roundB XXD) (b := true) (ev_notV (ev_call (G := gRound) (ea_cons (ev_var rfl) ea_nil) ⟨XXD, rfl, kod, xod.2, rfl, rfl⟩)) fun _ => Ev.to (ev_op (ev_var rfl) (ev_tup (ds := [.tup [.int 0, .int T10], .tup []]) (ea_cons (ev_tup (ds := [.int 0, .int T10]) (ea_cons ev_int (ea_cons ev_big ea_nil)) (szd (Nat.le_of_ble_eq_true rfl))) (ea_cons (ev_tup (ds := []) ea_nil (Nat.zero_le _)) ea_nil)) (szd (Nat.le_of_ble_eq_true rfl))) (op2_eqD (plS_d pl_xx) (plS_d pl_xx) (by decide) (by decide))) (congrArg (fun b => Sl.d (Dat.bl b)) (eqD_refl pl_xx))) (by rw [Bool.or_true])
    · rcases yra with h | rfl
      · exact ev_orV (a := true) (b := true) (ev_notV (a := false) (Ev.to (ev_call (G := gRay) (ea_cons (ev_var rfl) ea_nil) ⟨ray, rfl, kra, rfl, rfl⟩) (congrArg (fun b => Sl.d (Dat.bl b)) h))) fun h => by cases h
      · exact Ev.to (ev_orV (a := !rayB RAYX) (b := true) (ev_notV (ev_call (G := gRay) (ea_cons (ev_var rfl) ea_nil) ⟨RAYX, rfl, kra, rfl, rfl⟩)) fun _ => Ev.to (ev_op (ev_var rfl) (ev_tup (ds := [.int T10, .int 1]) (ea_cons ev_big (ea_cons ev_int ea_nil)) (szd (Nat.le_of_ble_eq_true rfl))) (op2_eqD (plS_d pl_two) (plS_d pl_two) (by decide) (by decide))) (congrArg (fun b => Sl.d (Dat.bl b)) (eqD_refl pl_two))) (by rw [Bool.or_true])
    · rw [show S.length = S5.length from hlen5.symm, List.take_left]
      exact ((set_id hk5).symm).trans (e5 v9)
end
end N46

set_option Elab.async false
set_option linter.all false
set_option maxRecDepth 100000
set_option maxHeartbeats 4000000
namespace N46
open PySem PySem.Spec PyProof.Rows L2 RW

abbrev bd1 (i : Nat) : Dat := .tup [.tup [.int 1, .int (0 + (i : Nat))], .int 1]
abbrev bd2 (i : Nat) : Dat := .tup [.tup [.int (-1), .int (0 - (0 + (i : Nat)))], .int 1]
def LB : List Dat := (List.range 401).map bd1 ++ (List.range 401).map bd2
abbrev LONG : Dat := .tup [.tup [.int 0, .int 0], .tup LB]
theorem lb_kd : ∀ d ∈ LB, KD d := fun d hd => by
  rcases List.mem_append.mp hd with h | h
  · obtain ⟨i, _, rfl⟩ := List.mem_map.mp h
    exact .tup (kc (.tup (kc (.int _) (kc (.int _) kn)) (Nat.le_of_ble_eq_true rfl)) (kc (.int _) kn)) (Nat.le_of_ble_eq_true rfl)
  · obtain ⟨i, _, rfl⟩ := List.mem_map.mp h
    exact .tup (kc (.tup (kc (.int _) (kc (.int _) kn)) (Nat.le_of_ble_eq_true rfl)) (kc (.int _) kn)) (Nat.le_of_ble_eq_true rfl)
theorem lb_len : LB.length = 802 := by unfold LB; rw [List.length_append, List.length_map, List.length_map, List.length_range]
theorem long_kd : KD LONG := .tup (kc (.tup (kc (.int _) (kc (.int _) kn)) (Nat.le_of_ble_eq_true rfl)) (kc (.tup lb_kd (by rw [lb_len]; decide)) kn)) (Nat.le_of_ble_eq_true rfl)
theorem long_round : roundB LONG = true := by decide +kernel
theorem long_sm : smT LONG = true := by decide +kernel
theorem long_no : toldOk LONG = false := by
  unfold toldOk
  rw [show decide (lenD (partD LONG 1) ≤ 800) = false from decide_eq_false (by show ¬ LB.length ≤ 800; rw [lb_len]; omega)]
  simp
abbrev M64 : Dat := toldD (shT "many " (.int 64))
theorem m64_sh : ShOk "many " (.int 64) := ⟨.int _, by decide +kernel, by decide +kernel, by decide +kernel⟩
theorem m64_is : shT "many " (.int 64) = Str.ofString "many 64" := by decide +kernel
def WL : List Str := [Str.ofString "operation", Str.ofString "fine", Str.ofString "many 64"]
theorem wl_is : WL.map dueD = [toldD "operation", letD, M64] := by
  show [dueD "operation", dueD "fine", dueD "many 64"] = _
  rw [show dueD "operation" = toldD "operation" from if_neg (by decide +kernel), show dueD "fine" = letD from if_pos rfl, show dueD "many 64" = toldD "many 64" from if_neg (by decide +kernel), ← m64_is]
theorem pl_l : Pl 2 (.lst [toldD "operation", letD, M64]) := .lst fun x hx => by
  simp only [List.mem_cons, List.not_mem_nil, or_false] at hx
  rcases hx with rfl | rfl | rfl
  · exact pl_told (by decide +kernel)
  · exact pl_let
  · exact pl_told m64_sh.lay
theorem pl_ax : Pl 2 AXESD := .tup fun d hd => by
  simp only [List.mem_cons, List.not_mem_nil, or_false] at hd
  rcases hd with rfl | rfl | rfl | rfl <;> exact pl_two
theorem r99_kd : KD R99 := by (repeat (first | exact kn | (refine kc ?_ ?_) | assumption | exact KD.non | exact KD.bl _ | exact KD.int _ | exact KD.str _ | exact KD.dd | refine KD.tup ?_ (Nat.le_of_ble_eq_true rfl) | refine KD.lst ?_ (Nat.le_of_ble_eq_true rfl)))
theorem nil_kd : KD (.tup []) := by (repeat (first | exact kn | (refine kc ?_ ?_) | assumption | exact KD.non | exact KD.bl _ | exact KD.int _ | exact KD.str _ | exact KD.dd | refine KD.tup ?_ (Nat.le_of_ble_eq_true rfl) | refine KD.lst ?_ (Nat.le_of_ble_eq_true rfl)))
section
variable {K : PySem.W.Frag} {mg : Str → Option Value}
def gLaw (T : Txt K mg) (ss : List Sl) (S : List Dat) (r : Dat) (S' : List Dat) : Prop := ∃ (ns : List Int), ss = [.d (.scr ns)] ∧ ns.length ≤ 63 ∧ AllTabs (tabs T) S ∧ r = .bl true ∧ S' = S
end
section
variable {P : Program} {w : World} {K : PySem.W.Frag} {mg : Str → Option Value} {base : Heap}

theorem ok_law (T : Txt K mg) (TB : LamX.TabB base mg T.c_law T.P_law) (TB__law_right : LamX.TabB base mg T.c__law_right T.P__law_right) : FnG P w K mg base CX0 11 T.a_law T.d_law ["script"] (SpD K (gLaw T)) := by
  have G__law_pack := ok__law_pack (P := P) (w := w) (base := base) T
  have b__law_pack := T.b__law_pack
  have G__law_right := ok__law_right (P := P) (w := w) (base := base) T TB__law_right
  have b__law_right := T.b__law_right
  have G_value_of_round := ok_value_of_round (P := P) (w := w) (base := base) T
  have b_value_of_round := T.b_value_of_round
  have G_smooth_fan := ok_smooth_fan (P := P) (w := w) (base := base) T
  have b_smooth_fan := T.b_smooth_fan
  have G__law_due := ok__law_due (P := P) (w := w) (base := base) T
  have b__law_due := T.b__law_due
  have G_is_round := ok_is_round (P := P) (w := w) (base := base) T
  have b_is_round := T.b_is_round
  obtain ⟨oc0, od0, kV0, doc0, pm0, an0, ct0, osl0, ed0, lk0, hc0⟩ := T.lk_law
  rw [ed0] at lk0 ⊢
  refine fng_body lk0 hc0 sc_law (spd_len (k := 1) fun ss S r S' hg => ?_) (fun A outer s H vs Q E hcm hr h => ?_)
  · obtain ⟨i, rfl, _⟩ := hg; rfl
  · have hcode : (cxOf CX0 P w K mg base ["script", "spot", "pack", "bends", "at", "long", "told"] "law" (defScope s_law) T.a_law (.ref T.c_law) A outer s H E).nox.env.code = .ref T.c_law := rfl
    refine ⟨_, PSs.nox (pss_cons (ps_for PassesOwn.never rfl (pi_range1 (by rfl) T.n_range (pa_cons (pe_callB (call_max2D rfl) (by rfl) T.n_max (by decide +kernel) (pa_cons pe_int (pa_cons (pe_callB (call_min2D rfl) (by rfl) T.n_min (by decide +kernel) (pa_cons pe_int (pa_cons (pe_callB (call_lenK K) (by rfl) T.n_len (by decide +kernel) (pa_cons (pv 0) pa_nil)) pa_nil))) pa_nil))) pa_nil)) (pg_name (i := 1) sc_law.nd rfl (by first | exact Or.inl rfl | exact Or.inr rfl)) (pss_cons (ps_set (i := 2) sc_law.nd rfl (by first | exact Or.inl rfl | exact Or.inr rfl) (pe_call G__law_pack (hr.mono (by decide)) rfl T.m__law_pack T.k__law_pack b__law_pack .nil pass0 (pa_cons (pv 0) (pa_cons (pv 1) pa_nil)))) (pss_one (ps_if (PW.pt (pw_or (pt_not (pt_truK K (pe_callG G__law_right hcm (hr.mono (by decide)) rfl T.m__law_right T.k__law_right b__law_right pass0 (pa_cons (pv 2) pa_nil)))) (pw_or1 (pt_not (pt_truK K (pe_callG G__law_right hcm (hr.mono (by decide)) rfl T.m__law_right T.k__law_right b__law_right pass0 (pa_cons (pv 2) pa_nil))))))) (pss_one (ps_ret pe_bl)) pss_nil)))) (pss_cons (ps_set (i := 3) sc_law.nd rfl (by first | exact Or.inl rfl | exact Or.inr rfl) (pe_op (op_ctAK K) (pe_callTy (call_tupK K rfl) (by rfl) T.n_tuple (by decide +kernel) (pa_cons (pe_lc (own := [("at", 4)]) rfl sc_law.nd (pi_range1 (by rfl) T.n_range (pa_cons pe_int pa_nil)) (blkOk_by (own := [("at", 4)]) (N := ["script", "spot", "pack", "bends", "at", "long", "told"]) (sc := (defScope s_law)) (by decide +kernel)) (fun _ _ _ _ _ => (pg_name (i := 4) sc_law.nd rfl (by first | exact Or.inl rfl | exact Or.inr rfl))) (fun _ _ _ _ _ => pts_nil) (fun _ _ _ _ _ => (pe_tup (pa_cons (pe_tup (pa_cons pe_int (pa_cons (pv 4) pa_nil))) (pa_cons pe_int pa_nil))))) pa_nil)) (pe_callTy (call_tupK K rfl) (by rfl) T.n_tuple (by decide +kernel) (pa_cons (pe_lc (own := [("at", 4)]) rfl sc_law.nd (pi_range1 (by rfl) T.n_range (pa_cons pe_int pa_nil)) (blkOk_by (own := [("at", 4)]) (N := ["script", "spot", "pack", "bends", "at", "long", "told"]) (sc := (defScope s_law)) (by decide +kernel)) (fun _ _ _ _ _ => (pg_name (i := 4) sc_law.nd rfl (by first | exact Or.inl rfl | exact Or.inr rfl))) (fun _ _ _ _ _ => pts_nil) (fun _ _ _ _ _ => (pe_tup (pa_cons (pe_tup (pa_cons (pe_un un_neg pe_int) (pa_cons (pe_op op_sub pe_int (pv 4)) pa_nil))) (pa_cons pe_int pa_nil))))) pa_nil)))) (pss_cons (ps_set (i := 5) sc_law.nd rfl (by first | exact Or.inl rfl | exact Or.inr rfl) (pe_tup (pa_cons (pe_tup (pa_cons pe_int (pa_cons pe_int pa_nil))) (pa_cons (pv 3) pa_nil)))) (pss_cons (ps_set (i := 6) sc_law.nd rfl (by first | exact Or.inl rfl | exact Or.inr rfl) (pe_lst (pa_cons (lam__law_word (T := T) (k := 7) (tm0 T) (tu0 T) hcm TB hcode (hr.mono (by decide)) rfl (LamX.lamS_by (sc := defScope s_law) (by decide +kernel)) rfl (fun _ _ _ _ _ => rfl) (fun A2 outer2 s2 H2 E2 f2 c2 hr2 => (pe_call G_value_of_round (hr2.mono (by decide)) rfl T.m_value_of_round T.k_value_of_round b_value_of_round .nil (passR (takes_of rfl rfl rfl rfl)) (pa_cons (pv 5) (pa_cons (pe_tup (pa_cons pe_int (pa_cons pe_int pa_nil))) pa_nil))))) pa_nil))) (pss_cons (ps_expr (pe_bm PySem.F.plainAttrs_list PySem.F.slot_list_append PySem.F.type_list_append mt_append (pv 6) (pa_cons (lam__law_word (T := T) (k := 7) (tm0 T) (tu0 T) hcm TB hcode (hr.mono (by decide)) rfl (LamX.lamS_by (sc := defScope s_law) (by decide +kernel)) rfl (fun _ _ _ _ _ => rfl) (fun A2 outer2 s2 H2 E2 f2 c2 hr2 => (pe_call G_smooth_fan (hr2.mono (by decide)) rfl T.m_smooth_fan T.k_smooth_fan b_smooth_fan .nil (passR (takes_of rfl rfl rfl rfl)) (pa_cons (pe_tup pa_nil) pa_nil)))) pa_nil))) (pss_cons (ps_expr (pe_bm PySem.F.plainAttrs_list PySem.F.slot_list_append PySem.F.type_list_append mt_append (pv 6) (pa_cons (lam__law_word (T := T) (k := 7) (tm0 T) (tu0 T) hcm TB hcode (hr.mono (by decide)) rfl (LamX.lamS_by (sc := defScope s_law) (by decide +kernel)) rfl (fun _ _ _ _ _ => rfl) (fun A2 outer2 s2 H2 E2 f2 c2 hr2 => (pe_call G_smooth_fan (hr2.mono (by decide)) rfl T.m_smooth_fan T.k_smooth_fan b_smooth_fan .nil (passR (takes_of rfl rfl rfl rfl)) (pa_cons (pe_tup (pa_cons (pe_tup (pa_cons pe_int (pa_cons pe_int pa_nil))) pa_nil)) pa_nil)))) pa_nil))) (pss_one (ps_ret (pe_and (pe_cmpR (op_eqDK K hr.units) (pv 6) (pe_call G__law_due (hr.mono (by decide)) rfl T.m__law_due T.k__law_due b__law_due .nil pass0 (pa_cons (pe_lst (pa_cons pe_str (pa_cons pe_str (pa_cons pe_str pa_nil)))) pa_nil)) (nomark _)) (pe_and (pe_call G_is_round (hr.mono (by decide)) rfl T.m_is_round T.k_is_round b_is_round .nil pass0 (pa_cons (pv 5) pa_nil)) (pe_one (pe_cmpR (op_eqDK K hr.units) (pe_call G_smooth_fan (hr.mono (by decide)) rfl T.m_smooth_fan T.k_smooth_fan b_smooth_fan .nil passL (pa_cons (pe_tup pa_nil) pa_nil)) (pe_tup (pa_cons (pe_tup (pa_cons pe_int (pa_cons pe_int pa_nil))) (pa_cons (pe_tup (pa_cons pe_int (pa_cons pe_int pa_nil))) (pa_cons (pe_tup (pa_cons (pe_un un_neg pe_int) (pa_cons pe_int pa_nil))) (pa_cons (pe_tup (pa_cons pe_int (pa_cons (pe_un un_neg pe_int) pa_nil))) pa_nil))))) (nomark _))))))))))))), sp_body h fun ss S r S' hg => ?_⟩
    obtain ⟨ns, rfl, hns, hT, rfl, rfl⟩ := hg
    obtain ⟨c, hc⟩ : ∃ c : Nat, max 1 (min 4 (ns.length : Int)) = (c : Int) := ⟨(max 1 (min 4 (ns.length : Int))).toNat, by omega⟩
    have hc4 : c ≤ 4 := by omega
    refine sp_seq (P' := { nx := fun env' S2 => (∃ X, S2 = S' ++ X) ∧ AllTabs (tabs T) S2 ∧ ∃ o1 o2, env' = [some (.d (.scr ns)), o1, o2, Option.none, Option.none, Option.none, Option.none] })
      (sp_forA (xs := List.range c) (g := fun i => Dat.int (0 + (i : Nat))) (it_rangeN (m := c) (ea_cons ((ev_cb (ea_cons ev_int (ea_cons (ev_cb (ea_cons ev_int (ea_cons (ev_cb (ea_cons (ev_var rfl) ea_nil) cd_lenS) ea_nil)) cd_min2) ea_nil)) cd_max2).to (by rw [hc])) ea_nil) (by omega)) (fun i env' S2 => (∃ X, S2 = S' ++ X) ∧ AllTabs (tabs T) S2 ∧ ∃ o1 o2, env' = [some (.d (.scr ns)), o1, o2, Option.none, Option.none, Option.none, Option.none]) ⟨⟨[], (List.append_nil _).symm⟩, hT, none, none, rfl⟩ (fun _ _ _ _ _ _ _ _ _ => trivial) ?_ ?_) ?_
    · rintro i a env' S2 ha ⟨⟨X, rfl⟩, hT2, o1, o2, rfl⟩
      refine ⟨[1], fun env => env.set 1 (some (.d (.int (0 + (a : Nat))))), tg_name, ?_⟩
      rw [Int.zero_add]
      refine sp_setC (S1 := S' ++ X) (ds := [.int (vatF ns a).1, .int (vatF ns a).2.1, .int (vatF ns a).2.2]) (en_call (ea_cons (ev_var rfl) (ea_cons (ev_var rfl) ea_nil)) ⟨ns, a, rfl, rfl, rfl⟩) ?_
      refine sp_ifE (pT := fun b T1 => b = false ∧ ∃ v', T1 = S' ++ X ++ [vatD v']) (ete_or (pT' := fun b T1 => b = false ∧ ∃ v', T1 = S' ++ X ++ [vatD v']) (ete_not (ete_bl (eve_callA (ea_cons (ev_var rfl) ea_nil) ⟨(S' ++ X).length, vatF ns a, rfl, get_app, at_app hT2, rfl⟩ fun r T ⟨h1, v', h2⟩ => ⟨true, by rw [h1], rfl, v', by rw [h2]; exact set_app⟩))) (fun S1 h => ?_) fun S1 h => by cases h.1) (fun S1 h => by cases h.1) fun S1 h => ?_
      · obtain ⟨_, v', rfl⟩ := h
        exact ete_not (ete_bl (eve_callA (ea_cons (ev_var rfl) ea_nil) ⟨(S' ++ X).length, v', rfl, get_app, at_app hT2, rfl⟩ fun r T ⟨h1, v', h2⟩ => ⟨true, by rw [h1], rfl, v', by rw [h2]; exact set_app⟩))
      · obtain ⟨_, v', rfl⟩ := h
        exact sp_next ⟨⟨X ++ [vatD v'], by rw [List.append_assoc]⟩, at_app hT2, _, _, rfl⟩
    · rintro env' S2 ⟨hX, hT2, o1, o2, rfl⟩
      exact ⟨hX, hT2, o1, o2, rfl⟩
    · rintro env' S2 ⟨⟨X, rfl⟩, hT2, o1, o2, rfl⟩
      have hT3 : ∀ {xs : List Dat}, AllTabs (tabs T) (S' ++ X ++ [.lst xs]) := fun {xs} => at_app hT2
      have sz : ∀ {n : Nat}, n ≤ 1000 → n ≤ sizeLine := fun {n} h => szd h
      refine sp_set (S1 := S' ++ X) (x := .d (.tup LB)) (ev_op (ev_cb (ea_cons (EvN.ev (en_mapA (xs := List.range 401) (g := fun i => Dat.int (0 + (i : Nat))) (is := [4]) bd1 (it_rangeN (m := 401) (ea_cons ev_int ea_nil) (by omega)) (sz (by rw [List.length_range]; omega)) (fun _ _ => trivial) (by decide) (fun i env => env.set 4 (some (.d (.int (0 + (i : Nat)))))) fun i hi => ⟨tg_name, ev_tup (ds := [.tup [.int 1, .int (0 + (i : Nat))], .int 1]) (ea_cons (ev_tup (ds := [.int 1, .int (0 + (i : Nat))]) (ea_cons ev_int (ea_cons (ev_var rfl) ea_nil)) (szd (Nat.le_of_ble_eq_true rfl))) (ea_cons ev_int ea_nil)) (szd (Nat.le_of_ble_eq_true rfl))⟩)) ea_nil) (cd_tup .lst)) (ev_cb (ea_cons (EvN.ev (en_mapA (xs := List.range 401) (g := fun i => Dat.int (0 + (i : Nat))) (is := [4]) bd2 (it_rangeN (m := 401) (ea_cons ev_int ea_nil) (by omega)) (sz (by rw [List.length_range]; omega)) (fun _ _ => trivial) (by decide) (fun i env => env.set 4 (some (.d (.int (0 + (i : Nat)))))) fun i hi => ⟨tg_name, ev_tup (ds := [.tup [.int (-1), .int (0 - (0 + (i : Nat)))], .int 1]) (ea_cons (ev_tup (ds := [.int (-1), .int (0 - (0 + (i : Nat)))]) (ea_cons (ev_un ev_int o_neg) (ea_cons (ev_op ev_int (ev_var rfl) o_sub) ea_nil)) (szd (Nat.le_of_ble_eq_true rfl))) (ea_cons ev_int ea_nil)) (szd (Nat.le_of_ble_eq_true rfl))⟩)) ea_nil) (cd_tup .lst)) (op2_catT (sz (by rw [List.length_map, List.length_map, List.length_range]; omega)))) ?_
      refine sp_set (S1 := S' ++ X) (x := .d LONG) (ev_tup (ds := [.tup [.int 0, .int 0], .tup LB]) (ea_cons (ev_tup (ds := [.int 0, .int 0]) (ea_cons ev_int (ea_cons ev_int ea_nil)) (szd (Nat.le_of_ble_eq_true rfl))) (ea_cons (ev_var rfl) ea_nil)) (szd (Nat.le_of_ble_eq_true rfl))) ?_
      have e1O : ∀ {env : Env1} {S : List Dat}, Ev K (tTup (tCons (tC (.int 1)) (tCons (tC (.int 0)) tNil))) env S (.d (prD (1, 0))) S := fun {env S} => ev_tup (ds := [.int 1, .int 0]) (ea_cons ev_int (ea_cons ev_int ea_nil)) (szd (Nat.le_of_ble_eq_true rfl))
      have k1O : KD (prD (1, 0)) := by (repeat (first | exact kn | (refine kc ?_ ?_) | assumption | exact KD.non | exact KD.bl _ | exact KD.int _ | exact KD.str _ | exact KD.dd | refine KD.tup ?_ (Nat.le_of_ble_eq_true rfl) | refine KD.lst ?_ (Nat.le_of_ble_eq_true rfl)))
      refine sp_setC (S1 := S' ++ X) (ds := [toldD "operation"]) (en_lst (ea_cons (ev_met0 (met_ok T) hT2 (fun E => ev_callX (ea_cons (ev_var rfl) (ea_cons e1O ea_nil)) ⟨LONG, prD (1, 0), rfl, long_kd, k1O, long_sm, .inl ⟨long_no, rfl⟩, rfl⟩) (rep_told K _) (fun H => .op)) ea_nil) (szd (Nat.le_of_ble_eq_true rfl))) ?_
      refine sp_env (env' := [some (.d (.scr ns)), o1, o2, some (.d (.tup LB)), Option.none, some (.d LONG), some (.c (S' ++ X).length)]) rfl ?_
      refine sp_tellM (G := []) rfl (ev_metH (met_ok T) hT3 (fun E => ev_callR (ea_cons (ev_tup (ds := []) ea_nil (Nat.zero_le _)) ea_nil) ⟨.tup [], rfl, nil_kd, .inr (.inr (.inl ⟨rfl, rfl⟩)), rfl⟩) (rep_let K)) (Nat.le_of_ble_eq_true rfl) ?_
      refine sp_tellM (G := []) rfl (ev_met1 (met_ok T) hT3 (fun E => ev_callX (ea_cons (ev_tup (ds := [prD (1, 99)]) (ea_cons (ev_tup (ds := [.int 1, .int 99]) (ea_cons ev_int (ea_cons ev_int ea_nil)) (szd (Nat.le_of_ble_eq_true rfl))) ea_nil) (szd (Nat.le_of_ble_eq_true rfl))) ea_nil) ⟨R99, rfl, r99_kd, .inr (.inr (.inr ⟨rfl, rfl⟩)), rfl⟩) (rep_told K _) (fun H v h => .many m64_sh h)) (Nat.le_of_ble_eq_true rfl) ?_
      refine sp_env_S (S' := S' ++ X ++ [.lst [toldD "operation", letD, M64]]) rfl ?_
      refine sp_ret (d := .bl true) (S1 := S' ++ X ++ [.lst [toldD "operation", letD, M64]]) (ev_andV (a := true) (b := true) (Ev.to (ev_op (ev_var rfl) (Ev.to (ev_call (ea_cons (EvN.ev (en_lst (ds := WL.map Dat.str) (ea_cons ev_str (ea_cons ev_str (ea_cons ev_str ea_nil))) (szd (Nat.le_of_ble_eq_true rfl)))) ea_nil) ⟨WL, rfl, by decide, rfl, rfl⟩) (congrArg (fun l => Sl.d (.lst l)) wl_is)) (op2_eqD (plS_c pl_l get_app) (plS_d pl_l) (by decide) (by decide))) (congrArg (fun b => Sl.d (Dat.bl b)) (eqD_refl pl_l))) fun _ => ev_andV (a := true) (b := true) (Ev.to (ev_call (G := gRound) (ea_cons (ev_var rfl) ea_nil) ⟨LONG, rfl, long_kd, long_sm, rfl, rfl⟩) (congrArg (fun b => Sl.d (Dat.bl b)) long_round)) fun _ => Ev.to (ev_op (ev_callR (d := AXESD) (ea_cons (ev_tup (ds := []) ea_nil (Nat.zero_le _)) ea_nil) ⟨.tup [], rfl, nil_kd, .inr (.inr (.inl ⟨rfl, rfl⟩)), rfl⟩) (ev_tup (ds := [prD (1, 0), prD (0, 1), prD (-1, 0), prD (0, -1)]) ?_ (szd (Nat.le_of_ble_eq_true rfl))) (op2_eqD (plS_d pl_ax) (plS_d pl_ax) (by decide) (by decide))) (congrArg (fun b => Sl.d (Dat.bl b)) (eqD_refl pl_ax))) ⟨rfl, by rw [List.append_assoc, List.take_left]⟩
      show EvA K _ _ _ [.d (.tup [.int 1, .int 0]), .d (.tup [.int 0, .int 1]), .d (.tup [.int (-1), .int 0]), .d (.tup [.int 0, .int (-1)])] _
      (repeat (first | exact ea_nil | apply ea_cons | exact ev_non | exact ev_int | exact ev_str | exact ev_bl | exact ev_dd | exact ev_var rfl | exact ev_un ev_int o_neg | exact ev_big | exact ev_tup (ds := []) ea_nil (Nat.zero_le _) | exact EvN.ev (en_lst (ds := []) ea_nil (Nat.zero_le _)) | apply ev_tup | (apply EvN.ev; apply en_lst) | exact szd (Nat.le_of_ble_eq_true rfl)))
end
end N46

set_option Elab.async false
set_option maxRecDepth 100000
set_option maxHeartbeats 4000000
namespace N46
open PySem PySem.Spec PyProof.Rows L2 RW
theorem all_mk {l : PySem.W.OpenLaw} {q : Program} {w : World} {K : PySem.W.Frag} {h : Heap} {mg : Str → Option Value} {fa : Addr} (X : K.In h) (G : h.Ns mainGlobals mg) (hfa : mg "law" = some (.ref fa))
    {t_BEYOND : Tok}
    {t_BENEATH : Tok}
    {t_MOST_POINTS : Tok}
    {t_MOST_MEMBERS : Tok}
    {t_MOST_RAYS : Tok}
    {t_MOST_BENDS : Tok}
    {a_InvalidReading : Addr}
    {a_InvalidRow : Addr}
    {a_InvalidOperation : Addr}
    {a_TooMany : Addr}
    {a_TooManyu_initu : Addr} {od_TooManyu_initu an_TooManyu_initu : Option Addr} {sl_TooManyu_initu : Array (Option Value)} {oc_TooManyu_initu kV_TooManyu_initu dc_TooManyu_initu pm_TooManyu_initu cd_TooManyu_initu ct_TooManyu_initu : Value}
    {a_is_whole : Addr} {od_is_whole an_is_whole : Option Addr} {sl_is_whole : Array (Option Value)} {oc_is_whole kV_is_whole dc_is_whole pm_is_whole cd_is_whole ct_is_whole : Value}
    {a_are_short : Addr} {od_are_short an_are_short : Option Addr} {sl_are_short : Array (Option Value)} {oc_are_short kV_are_short dc_are_short pm_are_short cd_are_short ct_are_short : Value}
    {a_are_whole : Addr} {od_are_whole an_are_whole : Option Addr} {sl_are_whole : Array (Option Value)} {oc_are_whole kV_are_whole dc_are_whole pm_are_whole cd_are_whole ct_are_whole : Value}
    {a_is_short_row : Addr} {od_is_short_row an_is_short_row : Option Addr} {sl_is_short_row : Array (Option Value)} {oc_is_short_row kV_is_short_row dc_is_short_row pm_is_short_row cd_is_short_row ct_is_short_row : Value}
    {a_is_whole_row : Addr} {od_is_whole_row an_is_whole_row : Option Addr} {sl_is_whole_row : Array (Option Value)} {oc_is_whole_row kV_is_whole_row dc_is_whole_row pm_is_whole_row cd_is_whole_row ct_is_whole_row : Value}
    {a_are_short_rows : Addr} {od_are_short_rows an_are_short_rows : Option Addr} {sl_are_short_rows : Array (Option Value)} {oc_are_short_rows kV_are_short_rows dc_are_short_rows pm_are_short_rows cd_are_short_rows ct_are_short_rows : Value}
    {a_are_ascending : Addr} {od_are_ascending an_are_ascending : Option Addr} {sl_are_ascending : Array (Option Value)} {oc_are_ascending kV_are_ascending dc_are_ascending pm_are_ascending cd_are_ascending ct_are_ascending : Value}
    {a_product_of : Addr} {od_product_of an_product_of : Option Addr} {sl_product_of : Array (Option Value)} {oc_product_of kV_product_of dc_product_of pm_product_of cd_product_of ct_product_of : Value}
    {a_bezout : Addr} {od_bezout an_bezout : Option Addr} {sl_bezout : Array (Option Value)} {oc_bezout kV_bezout dc_bezout pm_bezout cd_bezout ct_bezout : Value}
    {a_is_lot : Addr} {od_is_lot an_is_lot : Option Addr} {sl_is_lot : Array (Option Value)} {oc_is_lot kV_is_lot dc_is_lot pm_is_lot cd_is_lot ct_is_lot : Value}
    {a_is_reading : Addr} {od_is_reading an_is_reading : Option Addr} {sl_is_reading : Array (Option Value)} {oc_is_reading kV_is_reading dc_is_reading pm_is_reading cd_is_reading ct_is_reading : Value}
    {a_need_reading : Addr} {od_need_reading an_need_reading : Option Addr} {sl_need_reading : Array (Option Value)} {oc_need_reading kV_need_reading dc_need_reading pm_need_reading cd_need_reading ct_need_reading : Value}
    {a_det : Addr} {od_det an_det : Option Addr} {sl_det : Array (Option Value)} {oc_det kV_det dc_det pm_det cd_det ct_det : Value}
    {a_quarter_of : Addr} {od_quarter_of an_quarter_of : Option Addr} {sl_quarter_of : Array (Option Value)} {oc_quarter_of kV_quarter_of dc_quarter_of pm_quarter_of cd_quarter_of ct_quarter_of : Value}
    {a_is_ahead : Addr} {od_is_ahead an_is_ahead : Option Addr} {sl_is_ahead : Array (Option Value)} {oc_is_ahead kV_is_ahead dc_is_ahead pm_is_ahead cd_is_ahead ct_is_ahead : Value}
    {a_are_in_turn : Addr} {od_are_in_turn an_are_in_turn : Option Addr} {sl_are_in_turn : Array (Option Value)} {oc_are_in_turn kV_are_in_turn dc_are_in_turn pm_are_in_turn cd_are_in_turn ct_are_in_turn : Value}
    {a_turn_key : Addr} {od_turn_key an_turn_key : Option Addr} {sl_turn_key : Array (Option Value)} {oc_turn_key kV_turn_key dc_turn_key pm_turn_key cd_turn_key ct_turn_key : Value}
    {a_in_turn : Addr} {od_in_turn an_in_turn : Option Addr} {sl_in_turn : Array (Option Value)} {oc_in_turn kV_in_turn dc_in_turn pm_in_turn cd_in_turn ct_in_turn : Value}
    {a_next_ray : Addr} {od_next_ray an_next_ray : Option Addr} {sl_next_ray : Array (Option Value)} {oc_next_ray kV_next_ray dc_next_ray pm_next_ray cd_next_ray ct_next_ray : Value}
    {a_rays_between : Addr} {od_rays_between an_rays_between : Option Addr} {sl_rays_between : Array (Option Value)} {oc_rays_between kV_rays_between dc_rays_between pm_rays_between cd_rays_between ct_rays_between : Value}
    {a_smoothed : Addr} {od_smoothed an_smoothed : Option Addr} {sl_smoothed : Array (Option Value)} {oc_smoothed kV_smoothed dc_smoothed pm_smoothed cd_smoothed ct_smoothed : Value}
    {a_is_ray : Addr} {od_is_ray an_is_ray : Option Addr} {sl_is_ray : Array (Option Value)} {oc_is_ray kV_is_ray dc_is_ray pm_is_ray cd_is_ray ct_is_ray : Value}
    {a_are_bends : Addr} {od_are_bends an_are_bends : Option Addr} {sl_are_bends : Array (Option Value)} {oc_are_bends kV_are_bends dc_are_bends pm_are_bends cd_are_bends ct_are_bends : Value}
    {a_is_round : Addr} {od_is_round an_is_round : Option Addr} {sl_is_round : Array (Option Value)} {oc_is_round kV_is_round dc_is_round pm_is_round cd_is_round ct_is_round : Value}
    {a_is_smooth : Addr} {od_is_smooth an_is_smooth : Option Addr} {sl_is_smooth : Array (Option Value)} {oc_is_smooth kV_is_smooth dc_is_smooth pm_is_smooth cd_is_smooth ct_is_smooth : Value}
    {a_need_told : Addr} {od_need_told an_need_told : Option Addr} {sl_need_told : Array (Option Value)} {oc_need_told kV_need_told dc_need_told pm_need_told cd_need_told ct_need_told : Value}
    {a_need_ray : Addr} {od_need_ray an_need_ray : Option Addr} {sl_need_ray : Array (Option Value)} {oc_need_ray kV_need_ray dc_need_ray pm_need_ray cd_need_ray ct_need_ray : Value}
    {a_need_fan : Addr} {od_need_fan an_need_fan : Option Addr} {sl_need_fan : Array (Option Value)} {oc_need_fan kV_need_fan dc_need_fan pm_need_fan cd_need_fan ct_need_fan : Value}
    {a_need_plane_row : Addr} {od_need_plane_row an_need_plane_row : Option Addr} {sl_need_plane_row : Array (Option Value)} {oc_need_plane_row kV_need_plane_row dc_need_plane_row pm_need_plane_row cd_need_plane_row ct_need_plane_row : Value}
    {a_need_plane_reading : Addr} {od_need_plane_reading an_need_plane_reading : Option Addr} {sl_need_plane_reading : Array (Option Value)} {oc_need_plane_reading kV_need_plane_reading dc_need_plane_reading pm_need_plane_reading cd_need_plane_reading ct_need_plane_reading : Value}
    {a_round_of : Addr} {od_round_of an_round_of : Option Addr} {sl_round_of : Array (Option Value)} {oc_round_of kV_round_of dc_round_of pm_round_of cd_round_of ct_round_of : Value}
    {a_forms_behind : Addr} {od_forms_behind an_forms_behind : Option Addr} {sl_forms_behind : Array (Option Value)} {oc_forms_behind kV_forms_behind dc_forms_behind pm_forms_behind cd_forms_behind ct_forms_behind : Value}
    {a_value_of_round : Addr} {od_value_of_round an_value_of_round : Option Addr} {sl_value_of_round : Array (Option Value)} {oc_value_of_round kV_value_of_round dc_value_of_round pm_value_of_round cd_value_of_round ct_value_of_round : Value}
    {a_form_behind : Addr} {od_form_behind an_form_behind : Option Addr} {sl_form_behind : Array (Option Value)} {oc_form_behind kV_form_behind dc_form_behind pm_form_behind cd_form_behind ct_form_behind : Value}
    {a_put_between : Addr} {od_put_between an_put_between : Option Addr} {sl_put_between : Array (Option Value)} {oc_put_between kV_put_between dc_put_between pm_put_between cd_put_between ct_put_between : Value}
    {a_smooth_fan : Addr} {od_smooth_fan an_smooth_fan : Option Addr} {sl_smooth_fan : Array (Option Value)} {oc_smooth_fan kV_smooth_fan dc_smooth_fan pm_smooth_fan cd_smooth_fan ct_smooth_fan : Value}
    {a_values_on : Addr} {od_values_on an_values_on : Option Addr} {sl_values_on : Array (Option Value)} {oc_values_on kV_values_on dc_values_on pm_values_on cd_values_on ct_values_on : Value}
    {a_round_by_values : Addr} {od_round_by_values an_round_by_values : Option Addr} {sl_round_by_values : Array (Option Value)} {oc_round_by_values kV_round_by_values dc_round_by_values pm_round_by_values cd_round_by_values ct_round_by_values : Value}
    {a__law_pack : Addr} {od__law_pack an__law_pack : Option Addr} {sl__law_pack : Array (Option Value)} {oc__law_pack kV__law_pack dc__law_pack pm__law_pack cd__law_pack ct__law_pack : Value}
    {a__law_dealt : Addr} {od__law_dealt an__law_dealt : Option Addr} {sl__law_dealt : Array (Option Value)} {oc__law_dealt kV__law_dealt dc__law_dealt pm__law_dealt cd__law_dealt ct__law_dealt : Value}
    {a__law_one_of : Addr} {od__law_one_of an__law_one_of : Option Addr} {sl__law_one_of : Array (Option Value)} {oc__law_one_of kV__law_one_of dc__law_one_of pm__law_one_of cd__law_one_of ct__law_one_of : Value}
    {a__law_due : Addr} {od__law_due an__law_due : Option Addr} {sl__law_due : Array (Option Value)} {oc__law_due kV__law_due dc__law_due pm__law_due cd__law_due ct__law_due : Value}
    {a__law_word : Addr} {od__law_word an__law_word : Option Addr} {sl__law_word : Array (Option Value)} {oc__law_word kV__law_word dc__law_word pm__law_word cd__law_word ct__law_word : Value}
    {a__law_right : Addr} {od__law_right an__law_right : Option Addr} {sl__law_right : Array (Option Value)} {oc__law_right kV__law_right dc__law_right pm__law_right ct__law_right : Value}
    {c__law_right P__law_right : Addr} {lo__law_right : Value} {ld__law_right : Option Addr} {lv__law_right : Array Value} {ls__law_right : Array (Option Value)}
    {a_law : Addr} {od_law an_law : Option Addr} {sl_law : Array (Option Value)} {oc_law kV_law dc_law pm_law ct_law : Value}
    {c_law P_law : Addr} {lo_law : Value} {ld_law : Option Addr} {lv_law : Array Value} {ls_law : Array (Option Value)}
    {a_EAST a_AXES : Addr}
    (c_BEYOND : PySem.W.nsIn K mainGlobals "BEYOND" = some (some (.int (10 ^ 60) t_BEYOND)))
    (c_BENEATH : PySem.W.nsIn K mainGlobals "BENEATH" = some (some (.int (-(10 ^ 60)) t_BENEATH)))
    (c_MOST_POINTS : PySem.W.nsIn K mainGlobals "MOST_POINTS" = some (some (.int 400 t_MOST_POINTS)))
    (c_MOST_MEMBERS : PySem.W.nsIn K mainGlobals "MOST_MEMBERS" = some (some (.int 8 t_MOST_MEMBERS)))
    (c_MOST_RAYS : PySem.W.nsIn K mainGlobals "MOST_RAYS" = some (some (.int 64 t_MOST_RAYS)))
    (c_MOST_BENDS : PySem.W.nsIn K mainGlobals "MOST_BENDS" = some (some (.int 800 t_MOST_BENDS)))
    (n_InvalidReading : PySem.W.nsIn K mainGlobals "InvalidReading" = some (some (.ref a_InvalidReading)))
    (n_InvalidRow : PySem.W.nsIn K mainGlobals "InvalidRow" = some (some (.ref a_InvalidRow)))
    (n_InvalidOperation : PySem.W.nsIn K mainGlobals "InvalidOperation" = some (some (.ref a_InvalidOperation)))
    (n_TooMany : PySem.W.nsIn K mainGlobals "TooMany" = some (some (.ref a_TooMany)))
    (a__TooManyu_initu : PySem.W.findIn K (.ref a_TooMany) "__init__" = some (some (.ref a_TooManyu_initu)))
    (i__TooManyu_initu : PySem.W.isFn K (.ref a_TooManyu_initu) = true)
    (l__TooManyu_initu : K.lookup a_TooManyu_initu = some ⟨oc_TooManyu_initu, od_TooManyu_initu, .func (PySem.W.fnOf "__init__" "TooMany.__init__" (defArgs s_TooManyu_initu) (defBody s_TooManyu_initu) (defScope s_TooManyu_initu) .none kV_TooManyu_initu dc_TooManyu_initu pm_TooManyu_initu an_TooManyu_initu cd_TooManyu_initu ct_TooManyu_initu), sl_TooManyu_initu⟩)
    (c__TooManyu_initu : PySem.W.codeIn K cd_TooManyu_initu "TooMany.__init__" = true)
    (k__TooManyu_initu : PySem.W.keepIn K (.ref a_TooManyu_initu) = true)
    (a__is_whole : PySem.W.nsIn K mainGlobals "is_whole" = some (some (.ref a_is_whole)))
    (l__is_whole : K.lookup a_is_whole = some ⟨oc_is_whole, od_is_whole, .func (PySem.W.fnOf "is_whole" "is_whole" (defArgs s_is_whole) (defBody s_is_whole) (defScope s_is_whole) .none kV_is_whole dc_is_whole pm_is_whole an_is_whole cd_is_whole ct_is_whole), sl_is_whole⟩)
    (c__is_whole : PySem.W.codeIn K cd_is_whole "is_whole" = true)
    (k__is_whole : PySem.W.keepIn K (.ref a_is_whole) = true)
    (a__are_short : PySem.W.nsIn K mainGlobals "are_short" = some (some (.ref a_are_short)))
    (l__are_short : K.lookup a_are_short = some ⟨oc_are_short, od_are_short, .func (PySem.W.fnOf "are_short" "are_short" (defArgs s_are_short) (defBody s_are_short) (defScope s_are_short) .none kV_are_short dc_are_short pm_are_short an_are_short cd_are_short ct_are_short), sl_are_short⟩)
    (c__are_short : PySem.W.codeIn K cd_are_short "are_short" = true)
    (k__are_short : PySem.W.keepIn K (.ref a_are_short) = true)
    (a__are_whole : PySem.W.nsIn K mainGlobals "are_whole" = some (some (.ref a_are_whole)))
    (l__are_whole : K.lookup a_are_whole = some ⟨oc_are_whole, od_are_whole, .func (PySem.W.fnOf "are_whole" "are_whole" (defArgs s_are_whole) (defBody s_are_whole) (defScope s_are_whole) .none kV_are_whole dc_are_whole pm_are_whole an_are_whole cd_are_whole ct_are_whole), sl_are_whole⟩)
    (c__are_whole : PySem.W.codeIn K cd_are_whole "are_whole" = true)
    (k__are_whole : PySem.W.keepIn K (.ref a_are_whole) = true)
    (a__is_short_row : PySem.W.nsIn K mainGlobals "is_short_row" = some (some (.ref a_is_short_row)))
    (l__is_short_row : K.lookup a_is_short_row = some ⟨oc_is_short_row, od_is_short_row, .func (PySem.W.fnOf "is_short_row" "is_short_row" (defArgs s_is_short_row) (defBody s_is_short_row) (defScope s_is_short_row) .none kV_is_short_row dc_is_short_row pm_is_short_row an_is_short_row cd_is_short_row ct_is_short_row), sl_is_short_row⟩)
    (c__is_short_row : PySem.W.codeIn K cd_is_short_row "is_short_row" = true)
    (k__is_short_row : PySem.W.keepIn K (.ref a_is_short_row) = true)
    (a__is_whole_row : PySem.W.nsIn K mainGlobals "is_whole_row" = some (some (.ref a_is_whole_row)))
    (l__is_whole_row : K.lookup a_is_whole_row = some ⟨oc_is_whole_row, od_is_whole_row, .func (PySem.W.fnOf "is_whole_row" "is_whole_row" (defArgs s_is_whole_row) (defBody s_is_whole_row) (defScope s_is_whole_row) .none kV_is_whole_row dc_is_whole_row pm_is_whole_row an_is_whole_row cd_is_whole_row ct_is_whole_row), sl_is_whole_row⟩)
    (c__is_whole_row : PySem.W.codeIn K cd_is_whole_row "is_whole_row" = true)
    (k__is_whole_row : PySem.W.keepIn K (.ref a_is_whole_row) = true)
    (a__are_short_rows : PySem.W.nsIn K mainGlobals "are_short_rows" = some (some (.ref a_are_short_rows)))
    (l__are_short_rows : K.lookup a_are_short_rows = some ⟨oc_are_short_rows, od_are_short_rows, .func (PySem.W.fnOf "are_short_rows" "are_short_rows" (defArgs s_are_short_rows) (defBody s_are_short_rows) (defScope s_are_short_rows) .none kV_are_short_rows dc_are_short_rows pm_are_short_rows an_are_short_rows cd_are_short_rows ct_are_short_rows), sl_are_short_rows⟩)
    (c__are_short_rows : PySem.W.codeIn K cd_are_short_rows "are_short_rows" = true)
    (k__are_short_rows : PySem.W.keepIn K (.ref a_are_short_rows) = true)
    (a__are_ascending : PySem.W.nsIn K mainGlobals "are_ascending" = some (some (.ref a_are_ascending)))
    (l__are_ascending : K.lookup a_are_ascending = some ⟨oc_are_ascending, od_are_ascending, .func (PySem.W.fnOf "are_ascending" "are_ascending" (defArgs s_are_ascending) (defBody s_are_ascending) (defScope s_are_ascending) .none kV_are_ascending dc_are_ascending pm_are_ascending an_are_ascending cd_are_ascending ct_are_ascending), sl_are_ascending⟩)
    (c__are_ascending : PySem.W.codeIn K cd_are_ascending "are_ascending" = true)
    (k__are_ascending : PySem.W.keepIn K (.ref a_are_ascending) = true)
    (a__product_of : PySem.W.nsIn K mainGlobals "product_of" = some (some (.ref a_product_of)))
    (l__product_of : K.lookup a_product_of = some ⟨oc_product_of, od_product_of, .func (PySem.W.fnOf "product_of" "product_of" (defArgs s_product_of) (defBody s_product_of) (defScope s_product_of) .none kV_product_of dc_product_of pm_product_of an_product_of cd_product_of ct_product_of), sl_product_of⟩)
    (c__product_of : PySem.W.codeIn K cd_product_of "product_of" = true)
    (k__product_of : PySem.W.keepIn K (.ref a_product_of) = true)
    (a__bezout : PySem.W.nsIn K mainGlobals "bezout" = some (some (.ref a_bezout)))
    (l__bezout : K.lookup a_bezout = some ⟨oc_bezout, od_bezout, .func (PySem.W.fnOf "bezout" "bezout" (defArgs s_bezout) (defBody s_bezout) (defScope s_bezout) .none kV_bezout dc_bezout pm_bezout an_bezout cd_bezout ct_bezout), sl_bezout⟩)
    (c__bezout : PySem.W.codeIn K cd_bezout "bezout" = true)
    (k__bezout : PySem.W.keepIn K (.ref a_bezout) = true)
    (a__is_lot : PySem.W.nsIn K mainGlobals "is_lot" = some (some (.ref a_is_lot)))
    (l__is_lot : K.lookup a_is_lot = some ⟨oc_is_lot, od_is_lot, .func (PySem.W.fnOf "is_lot" "is_lot" (defArgs s_is_lot) (defBody s_is_lot) (defScope s_is_lot) .none kV_is_lot dc_is_lot pm_is_lot an_is_lot cd_is_lot ct_is_lot), sl_is_lot⟩)
    (c__is_lot : PySem.W.codeIn K cd_is_lot "is_lot" = true)
    (k__is_lot : PySem.W.keepIn K (.ref a_is_lot) = true)
    (a__is_reading : PySem.W.nsIn K mainGlobals "is_reading" = some (some (.ref a_is_reading)))
    (l__is_reading : K.lookup a_is_reading = some ⟨oc_is_reading, od_is_reading, .func (PySem.W.fnOf "is_reading" "is_reading" (defArgs s_is_reading) (defBody s_is_reading) (defScope s_is_reading) .none kV_is_reading dc_is_reading pm_is_reading an_is_reading cd_is_reading ct_is_reading), sl_is_reading⟩)
    (c__is_reading : PySem.W.codeIn K cd_is_reading "is_reading" = true)
    (k__is_reading : PySem.W.keepIn K (.ref a_is_reading) = true)
    (a__need_reading : PySem.W.nsIn K mainGlobals "need_reading" = some (some (.ref a_need_reading)))
    (l__need_reading : K.lookup a_need_reading = some ⟨oc_need_reading, od_need_reading, .func (PySem.W.fnOf "need_reading" "need_reading" (defArgs s_need_reading) (defBody s_need_reading) (defScope s_need_reading) .none kV_need_reading dc_need_reading pm_need_reading an_need_reading cd_need_reading ct_need_reading), sl_need_reading⟩)
    (c__need_reading : PySem.W.codeIn K cd_need_reading "need_reading" = true)
    (k__need_reading : PySem.W.keepIn K (.ref a_need_reading) = true)
    (a__det : PySem.W.nsIn K mainGlobals "det" = some (some (.ref a_det)))
    (l__det : K.lookup a_det = some ⟨oc_det, od_det, .func (PySem.W.fnOf "det" "det" (defArgs s_det) (defBody s_det) (defScope s_det) .none kV_det dc_det pm_det an_det cd_det ct_det), sl_det⟩)
    (c__det : PySem.W.codeIn K cd_det "det" = true)
    (k__det : PySem.W.keepIn K (.ref a_det) = true)
    (a__quarter_of : PySem.W.nsIn K mainGlobals "quarter_of" = some (some (.ref a_quarter_of)))
    (l__quarter_of : K.lookup a_quarter_of = some ⟨oc_quarter_of, od_quarter_of, .func (PySem.W.fnOf "quarter_of" "quarter_of" (defArgs s_quarter_of) (defBody s_quarter_of) (defScope s_quarter_of) .none kV_quarter_of dc_quarter_of pm_quarter_of an_quarter_of cd_quarter_of ct_quarter_of), sl_quarter_of⟩)
    (c__quarter_of : PySem.W.codeIn K cd_quarter_of "quarter_of" = true)
    (k__quarter_of : PySem.W.keepIn K (.ref a_quarter_of) = true)
    (a__is_ahead : PySem.W.nsIn K mainGlobals "is_ahead" = some (some (.ref a_is_ahead)))
    (l__is_ahead : K.lookup a_is_ahead = some ⟨oc_is_ahead, od_is_ahead, .func (PySem.W.fnOf "is_ahead" "is_ahead" (defArgs s_is_ahead) (defBody s_is_ahead) (defScope s_is_ahead) .none kV_is_ahead dc_is_ahead pm_is_ahead an_is_ahead cd_is_ahead ct_is_ahead), sl_is_ahead⟩)
    (c__is_ahead : PySem.W.codeIn K cd_is_ahead "is_ahead" = true)
    (k__is_ahead : PySem.W.keepIn K (.ref a_is_ahead) = true)
    (a__are_in_turn : PySem.W.nsIn K mainGlobals "are_in_turn" = some (some (.ref a_are_in_turn)))
    (l__are_in_turn : K.lookup a_are_in_turn = some ⟨oc_are_in_turn, od_are_in_turn, .func (PySem.W.fnOf "are_in_turn" "are_in_turn" (defArgs s_are_in_turn) (defBody s_are_in_turn) (defScope s_are_in_turn) .none kV_are_in_turn dc_are_in_turn pm_are_in_turn an_are_in_turn cd_are_in_turn ct_are_in_turn), sl_are_in_turn⟩)
    (c__are_in_turn : PySem.W.codeIn K cd_are_in_turn "are_in_turn" = true)
    (k__are_in_turn : PySem.W.keepIn K (.ref a_are_in_turn) = true)
    (a__turn_key : PySem.W.nsIn K mainGlobals "turn_key" = some (some (.ref a_turn_key)))
    (l__turn_key : K.lookup a_turn_key = some ⟨oc_turn_key, od_turn_key, .func (PySem.W.fnOf "turn_key" "turn_key" (defArgs s_turn_key) (defBody s_turn_key) (defScope s_turn_key) .none kV_turn_key dc_turn_key pm_turn_key an_turn_key cd_turn_key ct_turn_key), sl_turn_key⟩)
    (c__turn_key : PySem.W.codeIn K cd_turn_key "turn_key" = true)
    (k__turn_key : PySem.W.keepIn K (.ref a_turn_key) = true)
    (a__in_turn : PySem.W.nsIn K mainGlobals "in_turn" = some (some (.ref a_in_turn)))
    (l__in_turn : K.lookup a_in_turn = some ⟨oc_in_turn, od_in_turn, .func (PySem.W.fnOf "in_turn" "in_turn" (defArgs s_in_turn) (defBody s_in_turn) (defScope s_in_turn) .none kV_in_turn dc_in_turn pm_in_turn an_in_turn cd_in_turn ct_in_turn), sl_in_turn⟩)
    (c__in_turn : PySem.W.codeIn K cd_in_turn "in_turn" = true)
    (k__in_turn : PySem.W.keepIn K (.ref a_in_turn) = true)
    (a__next_ray : PySem.W.nsIn K mainGlobals "next_ray" = some (some (.ref a_next_ray)))
    (l__next_ray : K.lookup a_next_ray = some ⟨oc_next_ray, od_next_ray, .func (PySem.W.fnOf "next_ray" "next_ray" (defArgs s_next_ray) (defBody s_next_ray) (defScope s_next_ray) .none kV_next_ray dc_next_ray pm_next_ray an_next_ray cd_next_ray ct_next_ray), sl_next_ray⟩)
    (c__next_ray : PySem.W.codeIn K cd_next_ray "next_ray" = true)
    (k__next_ray : PySem.W.keepIn K (.ref a_next_ray) = true)
    (a__rays_between : PySem.W.nsIn K mainGlobals "rays_between" = some (some (.ref a_rays_between)))
    (l__rays_between : K.lookup a_rays_between = some ⟨oc_rays_between, od_rays_between, .func (PySem.W.fnOf "rays_between" "rays_between" (defArgs s_rays_between) (defBody s_rays_between) (defScope s_rays_between) .none kV_rays_between dc_rays_between pm_rays_between an_rays_between cd_rays_between ct_rays_between), sl_rays_between⟩)
    (c__rays_between : PySem.W.codeIn K cd_rays_between "rays_between" = true)
    (k__rays_between : PySem.W.keepIn K (.ref a_rays_between) = true)
    (a__smoothed : PySem.W.nsIn K mainGlobals "smoothed" = some (some (.ref a_smoothed)))
    (l__smoothed : K.lookup a_smoothed = some ⟨oc_smoothed, od_smoothed, .func (PySem.W.fnOf "smoothed" "smoothed" (defArgs s_smoothed) (defBody s_smoothed) (defScope s_smoothed) .none kV_smoothed dc_smoothed pm_smoothed an_smoothed cd_smoothed ct_smoothed), sl_smoothed⟩)
    (c__smoothed : PySem.W.codeIn K cd_smoothed "smoothed" = true)
    (k__smoothed : PySem.W.keepIn K (.ref a_smoothed) = true)
    (a__is_ray : PySem.W.nsIn K mainGlobals "is_ray" = some (some (.ref a_is_ray)))
    (l__is_ray : K.lookup a_is_ray = some ⟨oc_is_ray, od_is_ray, .func (PySem.W.fnOf "is_ray" "is_ray" (defArgs s_is_ray) (defBody s_is_ray) (defScope s_is_ray) .none kV_is_ray dc_is_ray pm_is_ray an_is_ray cd_is_ray ct_is_ray), sl_is_ray⟩)
    (c__is_ray : PySem.W.codeIn K cd_is_ray "is_ray" = true)
    (k__is_ray : PySem.W.keepIn K (.ref a_is_ray) = true)
    (a__are_bends : PySem.W.nsIn K mainGlobals "are_bends" = some (some (.ref a_are_bends)))
    (l__are_bends : K.lookup a_are_bends = some ⟨oc_are_bends, od_are_bends, .func (PySem.W.fnOf "are_bends" "are_bends" (defArgs s_are_bends) (defBody s_are_bends) (defScope s_are_bends) .none kV_are_bends dc_are_bends pm_are_bends an_are_bends cd_are_bends ct_are_bends), sl_are_bends⟩)
    (c__are_bends : PySem.W.codeIn K cd_are_bends "are_bends" = true)
    (k__are_bends : PySem.W.keepIn K (.ref a_are_bends) = true)
    (a__is_round : PySem.W.nsIn K mainGlobals "is_round" = some (some (.ref a_is_round)))
    (l__is_round : K.lookup a_is_round = some ⟨oc_is_round, od_is_round, .func (PySem.W.fnOf "is_round" "is_round" (defArgs s_is_round) (defBody s_is_round) (defScope s_is_round) .none kV_is_round dc_is_round pm_is_round an_is_round cd_is_round ct_is_round), sl_is_round⟩)
    (c__is_round : PySem.W.codeIn K cd_is_round "is_round" = true)
    (k__is_round : PySem.W.keepIn K (.ref a_is_round) = true)
    (a__is_smooth : PySem.W.nsIn K mainGlobals "is_smooth" = some (some (.ref a_is_smooth)))
    (l__is_smooth : K.lookup a_is_smooth = some ⟨oc_is_smooth, od_is_smooth, .func (PySem.W.fnOf "is_smooth" "is_smooth" (defArgs s_is_smooth) (defBody s_is_smooth) (defScope s_is_smooth) .none kV_is_smooth dc_is_smooth pm_is_smooth an_is_smooth cd_is_smooth ct_is_smooth), sl_is_smooth⟩)
    (c__is_smooth : PySem.W.codeIn K cd_is_smooth "is_smooth" = true)
    (k__is_smooth : PySem.W.keepIn K (.ref a_is_smooth) = true)
    (a__need_told : PySem.W.nsIn K mainGlobals "need_told" = some (some (.ref a_need_told)))
    (l__need_told : K.lookup a_need_told = some ⟨oc_need_told, od_need_told, .func (PySem.W.fnOf "need_told" "need_told" (defArgs s_need_told) (defBody s_need_told) (defScope s_need_told) .none kV_need_told dc_need_told pm_need_told an_need_told cd_need_told ct_need_told), sl_need_told⟩)
    (c__need_told : PySem.W.codeIn K cd_need_told "need_told" = true)
    (k__need_told : PySem.W.keepIn K (.ref a_need_told) = true)
    (a__need_ray : PySem.W.nsIn K mainGlobals "need_ray" = some (some (.ref a_need_ray)))
    (l__need_ray : K.lookup a_need_ray = some ⟨oc_need_ray, od_need_ray, .func (PySem.W.fnOf "need_ray" "need_ray" (defArgs s_need_ray) (defBody s_need_ray) (defScope s_need_ray) .none kV_need_ray dc_need_ray pm_need_ray an_need_ray cd_need_ray ct_need_ray), sl_need_ray⟩)
    (c__need_ray : PySem.W.codeIn K cd_need_ray "need_ray" = true)
    (k__need_ray : PySem.W.keepIn K (.ref a_need_ray) = true)
    (a__need_fan : PySem.W.nsIn K mainGlobals "need_fan" = some (some (.ref a_need_fan)))
    (l__need_fan : K.lookup a_need_fan = some ⟨oc_need_fan, od_need_fan, .func (PySem.W.fnOf "need_fan" "need_fan" (defArgs s_need_fan) (defBody s_need_fan) (defScope s_need_fan) .none kV_need_fan dc_need_fan pm_need_fan an_need_fan cd_need_fan ct_need_fan), sl_need_fan⟩)
    (c__need_fan : PySem.W.codeIn K cd_need_fan "need_fan" = true)
    (k__need_fan : PySem.W.keepIn K (.ref a_need_fan) = true)
    (a__need_plane_row : PySem.W.nsIn K mainGlobals "need_plane_row" = some (some (.ref a_need_plane_row)))
    (l__need_plane_row : K.lookup a_need_plane_row = some ⟨oc_need_plane_row, od_need_plane_row, .func (PySem.W.fnOf "need_plane_row" "need_plane_row" (defArgs s_need_plane_row) (defBody s_need_plane_row) (defScope s_need_plane_row) .none kV_need_plane_row dc_need_plane_row pm_need_plane_row an_need_plane_row cd_need_plane_row ct_need_plane_row), sl_need_plane_row⟩)
    (c__need_plane_row : PySem.W.codeIn K cd_need_plane_row "need_plane_row" = true)
    (k__need_plane_row : PySem.W.keepIn K (.ref a_need_plane_row) = true)
    (a__need_plane_reading : PySem.W.nsIn K mainGlobals "need_plane_reading" = some (some (.ref a_need_plane_reading)))
    (l__need_plane_reading : K.lookup a_need_plane_reading = some ⟨oc_need_plane_reading, od_need_plane_reading, .func (PySem.W.fnOf "need_plane_reading" "need_plane_reading" (defArgs s_need_plane_reading) (defBody s_need_plane_reading) (defScope s_need_plane_reading) .none kV_need_plane_reading dc_need_plane_reading pm_need_plane_reading an_need_plane_reading cd_need_plane_reading ct_need_plane_reading), sl_need_plane_reading⟩)
    (c__need_plane_reading : PySem.W.codeIn K cd_need_plane_reading "need_plane_reading" = true)
    (k__need_plane_reading : PySem.W.keepIn K (.ref a_need_plane_reading) = true)
    (a__round_of : PySem.W.nsIn K mainGlobals "round_of" = some (some (.ref a_round_of)))
    (l__round_of : K.lookup a_round_of = some ⟨oc_round_of, od_round_of, .func (PySem.W.fnOf "round_of" "round_of" (defArgs s_round_of) (defBody s_round_of) (defScope s_round_of) .none kV_round_of dc_round_of pm_round_of an_round_of cd_round_of ct_round_of), sl_round_of⟩)
    (c__round_of : PySem.W.codeIn K cd_round_of "round_of" = true)
    (k__round_of : PySem.W.keepIn K (.ref a_round_of) = true)
    (a__forms_behind : PySem.W.nsIn K mainGlobals "forms_behind" = some (some (.ref a_forms_behind)))
    (l__forms_behind : K.lookup a_forms_behind = some ⟨oc_forms_behind, od_forms_behind, .func (PySem.W.fnOf "forms_behind" "forms_behind" (defArgs s_forms_behind) (defBody s_forms_behind) (defScope s_forms_behind) .none kV_forms_behind dc_forms_behind pm_forms_behind an_forms_behind cd_forms_behind ct_forms_behind), sl_forms_behind⟩)
    (c__forms_behind : PySem.W.codeIn K cd_forms_behind "forms_behind" = true)
    (k__forms_behind : PySem.W.keepIn K (.ref a_forms_behind) = true)
    (a__value_of_round : PySem.W.nsIn K mainGlobals "value_of_round" = some (some (.ref a_value_of_round)))
    (l__value_of_round : K.lookup a_value_of_round = some ⟨oc_value_of_round, od_value_of_round, .func (PySem.W.fnOf "value_of_round" "value_of_round" (defArgs s_value_of_round) (defBody s_value_of_round) (defScope s_value_of_round) .none kV_value_of_round dc_value_of_round pm_value_of_round an_value_of_round cd_value_of_round ct_value_of_round), sl_value_of_round⟩)
    (c__value_of_round : PySem.W.codeIn K cd_value_of_round "value_of_round" = true)
    (k__value_of_round : PySem.W.keepIn K (.ref a_value_of_round) = true)
    (a__form_behind : PySem.W.nsIn K mainGlobals "form_behind" = some (some (.ref a_form_behind)))
    (l__form_behind : K.lookup a_form_behind = some ⟨oc_form_behind, od_form_behind, .func (PySem.W.fnOf "form_behind" "form_behind" (defArgs s_form_behind) (defBody s_form_behind) (defScope s_form_behind) .none kV_form_behind dc_form_behind pm_form_behind an_form_behind cd_form_behind ct_form_behind), sl_form_behind⟩)
    (c__form_behind : PySem.W.codeIn K cd_form_behind "form_behind" = true)
    (k__form_behind : PySem.W.keepIn K (.ref a_form_behind) = true)
    (a__put_between : PySem.W.nsIn K mainGlobals "put_between" = some (some (.ref a_put_between)))
    (l__put_between : K.lookup a_put_between = some ⟨oc_put_between, od_put_between, .func (PySem.W.fnOf "put_between" "put_between" (defArgs s_put_between) (defBody s_put_between) (defScope s_put_between) .none kV_put_between dc_put_between pm_put_between an_put_between cd_put_between ct_put_between), sl_put_between⟩)
    (c__put_between : PySem.W.codeIn K cd_put_between "put_between" = true)
    (k__put_between : PySem.W.keepIn K (.ref a_put_between) = true)
    (a__smooth_fan : PySem.W.nsIn K mainGlobals "smooth_fan" = some (some (.ref a_smooth_fan)))
    (l__smooth_fan : K.lookup a_smooth_fan = some ⟨oc_smooth_fan, od_smooth_fan, .func (PySem.W.fnOf "smooth_fan" "smooth_fan" (defArgs s_smooth_fan) (defBody s_smooth_fan) (defScope s_smooth_fan) .none kV_smooth_fan dc_smooth_fan pm_smooth_fan an_smooth_fan cd_smooth_fan ct_smooth_fan), sl_smooth_fan⟩)
    (c__smooth_fan : PySem.W.codeIn K cd_smooth_fan "smooth_fan" = true)
    (k__smooth_fan : PySem.W.keepIn K (.ref a_smooth_fan) = true)
    (a__values_on : PySem.W.nsIn K mainGlobals "values_on" = some (some (.ref a_values_on)))
    (l__values_on : K.lookup a_values_on = some ⟨oc_values_on, od_values_on, .func (PySem.W.fnOf "values_on" "values_on" (defArgs s_values_on) (defBody s_values_on) (defScope s_values_on) .none kV_values_on dc_values_on pm_values_on an_values_on cd_values_on ct_values_on), sl_values_on⟩)
    (c__values_on : PySem.W.codeIn K cd_values_on "values_on" = true)
    (k__values_on : PySem.W.keepIn K (.ref a_values_on) = true)
    (a__round_by_values : PySem.W.nsIn K mainGlobals "round_by_values" = some (some (.ref a_round_by_values)))
    (l__round_by_values : K.lookup a_round_by_values = some ⟨oc_round_by_values, od_round_by_values, .func (PySem.W.fnOf "round_by_values" "round_by_values" (defArgs s_round_by_values) (defBody s_round_by_values) (defScope s_round_by_values) .none kV_round_by_values dc_round_by_values pm_round_by_values an_round_by_values cd_round_by_values ct_round_by_values), sl_round_by_values⟩)
    (c__round_by_values : PySem.W.codeIn K cd_round_by_values "round_by_values" = true)
    (k__round_by_values : PySem.W.keepIn K (.ref a_round_by_values) = true)
    (a___law_pack : PySem.W.nsIn K mainGlobals "_law_pack" = some (some (.ref a__law_pack)))
    (l___law_pack : K.lookup a__law_pack = some ⟨oc__law_pack, od__law_pack, .func (PySem.W.fnOf "_law_pack" "_law_pack" (defArgs s__law_pack) (defBody s__law_pack) (defScope s__law_pack) .none kV__law_pack dc__law_pack pm__law_pack an__law_pack cd__law_pack ct__law_pack), sl__law_pack⟩)
    (c___law_pack : PySem.W.codeIn K cd__law_pack "_law_pack" = true)
    (k___law_pack : PySem.W.keepIn K (.ref a__law_pack) = true)
    (a___law_dealt : PySem.W.nsIn K mainGlobals "_law_dealt" = some (some (.ref a__law_dealt)))
    (l___law_dealt : K.lookup a__law_dealt = some ⟨oc__law_dealt, od__law_dealt, .func (PySem.W.fnOf "_law_dealt" "_law_dealt" (defArgs s__law_dealt) (defBody s__law_dealt) (defScope s__law_dealt) .none kV__law_dealt dc__law_dealt pm__law_dealt an__law_dealt cd__law_dealt ct__law_dealt), sl__law_dealt⟩)
    (c___law_dealt : PySem.W.codeIn K cd__law_dealt "_law_dealt" = true)
    (k___law_dealt : PySem.W.keepIn K (.ref a__law_dealt) = true)
    (a___law_one_of : PySem.W.nsIn K mainGlobals "_law_one_of" = some (some (.ref a__law_one_of)))
    (l___law_one_of : K.lookup a__law_one_of = some ⟨oc__law_one_of, od__law_one_of, .func (PySem.W.fnOf "_law_one_of" "_law_one_of" (defArgs s__law_one_of) (defBody s__law_one_of) (defScope s__law_one_of) .none kV__law_one_of dc__law_one_of pm__law_one_of an__law_one_of cd__law_one_of ct__law_one_of), sl__law_one_of⟩)
    (c___law_one_of : PySem.W.codeIn K cd__law_one_of "_law_one_of" = true)
    (k___law_one_of : PySem.W.keepIn K (.ref a__law_one_of) = true)
    (a___law_due : PySem.W.nsIn K mainGlobals "_law_due" = some (some (.ref a__law_due)))
    (l___law_due : K.lookup a__law_due = some ⟨oc__law_due, od__law_due, .func (PySem.W.fnOf "_law_due" "_law_due" (defArgs s__law_due) (defBody s__law_due) (defScope s__law_due) .none kV__law_due dc__law_due pm__law_due an__law_due cd__law_due ct__law_due), sl__law_due⟩)
    (c___law_due : PySem.W.codeIn K cd__law_due "_law_due" = true)
    (k___law_due : PySem.W.keepIn K (.ref a__law_due) = true)
    (a___law_word : PySem.W.nsIn K mainGlobals "_law_word" = some (some (.ref a__law_word)))
    (l___law_word : K.lookup a__law_word = some ⟨oc__law_word, od__law_word, .func (PySem.W.fnOf "_law_word" "_law_word" (defArgs s__law_word) (defBody s__law_word) (defScope s__law_word) .none kV__law_word dc__law_word pm__law_word an__law_word cd__law_word ct__law_word), sl__law_word⟩)
    (c___law_word : PySem.W.codeIn K cd__law_word "_law_word" = true)
    (k___law_word : PySem.W.keepIn K (.ref a__law_word) = true)
    (a___law_right : PySem.W.nsIn K mainGlobals "_law_right" = some (some (.ref a__law_right)))
    (l___law_right : K.lookup a__law_right = some ⟨oc__law_right, od__law_right, .func (PySem.W.fnOf "_law_right" "_law_right" (defArgs s__law_right) (defBody s__law_right) (defScope s__law_right) .none kV__law_right dc__law_right pm__law_right an__law_right (.ref c__law_right) ct__law_right), sl__law_right⟩)
    (c___law_right : PySem.W.codeIn K (.ref c__law_right) "_law_right" = true)
    (k___law_right : PySem.W.keepIn K (.ref a__law_right) = true)
    (lc__law_right : K.lookup c__law_right = some ⟨lo__law_right, ld__law_right, .fields lv__law_right, ls__law_right⟩)
    (lp__law_right : (lv__law_right[11]? : Option Value) = some (.ref P__law_right))
    (np__law_right : K.lookup P__law_right = none)
    (rf__law_right : ((recsOf q).find? fun e => e.name == ("_law_right" : Str)).isSome = true)
    (a__law : PySem.W.nsIn K mainGlobals "law" = some (some (.ref a_law)))
    (l__law : K.lookup a_law = some ⟨oc_law, od_law, .func (PySem.W.fnOf "law" "law" (defArgs s_law) (defBody s_law) (defScope s_law) .none kV_law dc_law pm_law an_law (.ref c_law) ct_law), sl_law⟩)
    (c__law : PySem.W.codeIn K (.ref c_law) "law" = true)
    (k__law : PySem.W.keepIn K (.ref a_law) = true)
    (lc_law : K.lookup c_law = some ⟨lo_law, ld_law, .fields lv_law, ls_law⟩)
    (lp_law : (lv_law[11]? : Option Value) = some (.ref P_law))
    (np_law : K.lookup P_law = none)
    (rf_law : ((recsOf q).find? fun e => e.name == ("law" : Str)).isSome = true)
    (pn__law_right_law : P__law_right ≠ P_law)
    (z_isinstance : PySem.W.nsIn K mainGlobals "isinstance" = some none)
    (z_int : PySem.W.nsIn K mainGlobals "int" = some none)
    (z_bool : PySem.W.nsIn K mainGlobals "bool" = some none)
    (z_tuple : PySem.W.nsIn K mainGlobals "tuple" = some none)
    (z_list : PySem.W.nsIn K mainGlobals "list" = some none)
    (z_len : PySem.W.nsIn K mainGlobals "len" = some none)
    (z_sum : PySem.W.nsIn K mainGlobals "sum" = some none)
    (z_all : PySem.W.nsIn K mainGlobals "all" = some none)
    (z_any : PySem.W.nsIn K mainGlobals "any" = some none)
    (z_zip : PySem.W.nsIn K mainGlobals "zip" = some none)
    (z_max : PySem.W.nsIn K mainGlobals "max" = some none)
    (z_min : PySem.W.nsIn K mainGlobals "min" = some none)
    (z_abs : PySem.W.nsIn K mainGlobals "abs" = some none)
    (z_range : PySem.W.nsIn K mainGlobals "range" = some none)
    (z_enumerate : PySem.W.nsIn K mainGlobals "enumerate" = some none)
    (z_reversed : PySem.W.nsIn K mainGlobals "reversed" = some none)
    (z_sorted : PySem.W.nsIn K mainGlobals "sorted" = some none)
    (z_str : PySem.W.nsIn K mainGlobals "str" = some none)
    (z_repr : PySem.W.nsIn K mainGlobals "repr" = some none)
    (z_set : PySem.W.nsIn K mainGlobals "set" = some none)
    (x__gcd : PySem.W.nsIn K mainGlobals "gcd" = some (some (.builtin "math.gcd")))
    (x__EAST : PySem.W.nsIn K mainGlobals "EAST" = some (some (.ref a_EAST)))
    (x__AXES : PySem.W.nsIn K mainGlobals "AXES" = some (some (.ref a_AXES)))
    (x__E : ∃ t0 t1 n sl, K.lookup a_EAST = some ⟨.type "tuple", none, .seq #[.int (1) t0, .int (0) t1] n, sl⟩)
    (x__A : ∃ b0 b1 b2 b3 n sl, K.lookup a_AXES = some ⟨.type "tuple", none, .seq #[.ref b0, .ref b1, .ref b2, .ref b3] n, sl⟩ ∧ (∃ t0 t1 n sl, K.lookup b0 = some ⟨.type "tuple", none, .seq #[.int (1) t0, .int (0) t1] n, sl⟩) ∧ (∃ t0 t1 n sl, K.lookup b1 = some ⟨.type "tuple", none, .seq #[.int (0) t0, .int (1) t1] n, sl⟩) ∧ (∃ t0 t1 n sl, K.lookup b2 = some ⟨.type "tuple", none, .seq #[.int (-1) t0, .int (0) t1] n, sl⟩) ∧ (∃ t0 t1 n sl, K.lookup b3 = some ⟨.type "tuple", none, .seq #[.int (0) t0, .int (-1) t1] n, sl⟩))
    (k_InvalidReading : PySem.W.keepIn K (.ref a_InvalidReading) = true)
    (be_InvalidReading : PySem.W.subIn K (.ref a_InvalidReading) (.type "BaseException") = some true)
    (ty_InvalidReading : PySem.W.typeIn K (.ref a_InvalidReading) = some (.type "type"))
    (ic_InvalidReading : PySem.W.isClsIn K a_InvalidReading = true)
    (x_InvalidReading : PySem.W.excIn K a_InvalidReading [.type "ValueError", .type "Exception", .type "BaseException", .type "object"] "ValueError.__new__" = true)
    (k_InvalidRow : PySem.W.keepIn K (.ref a_InvalidRow) = true)
    (be_InvalidRow : PySem.W.subIn K (.ref a_InvalidRow) (.type "BaseException") = some true)
    (ty_InvalidRow : PySem.W.typeIn K (.ref a_InvalidRow) = some (.type "type"))
    (ic_InvalidRow : PySem.W.isClsIn K a_InvalidRow = true)
    (x_InvalidRow : PySem.W.excIn K a_InvalidRow [.type "ValueError", .type "Exception", .type "BaseException", .type "object"] "ValueError.__new__" = true)
    (k_InvalidOperation : PySem.W.keepIn K (.ref a_InvalidOperation) = true)
    (be_InvalidOperation : PySem.W.subIn K (.ref a_InvalidOperation) (.type "BaseException") = some true)
    (ty_InvalidOperation : PySem.W.typeIn K (.ref a_InvalidOperation) = some (.type "type"))
    (ic_InvalidOperation : PySem.W.isClsIn K a_InvalidOperation = true)
    (x_InvalidOperation : PySem.W.excIn K a_InvalidOperation [.type "ValueError", .type "Exception", .type "BaseException", .type "object"] "ValueError.__new__" = true)
    (k_TooMany : PySem.W.keepIn K (.ref a_TooMany) = true)
    (be_TooMany : PySem.W.subIn K (.ref a_TooMany) (.type "BaseException") = some true)
    (ty_TooMany : PySem.W.typeIn K (.ref a_TooMany) = some (.type "type"))
    (ic_TooMany : PySem.W.isClsIn K a_TooMany = true)
    (ol_TooMany : ∃ nm q N bs sn sub ab col dd k0 k1 k2 k3 k5, K.lookup a_TooMany = some (PySem.excClassObj nm q a_TooMany N bs [.type "OverflowError", .type "ArithmeticError", .type "Exception", .type "BaseException", .type "object"] true sn sub ab col dd k0 k1 k2 k3 k5 "OverflowError.__new__"))
    (os_TooMany : PySem.W.findIn K (.ref a_TooMany) "__setattr__" = some (some (.builtin "object.__setattr__")))
    (ot_TooMany : PySem.W.typeIn K (.ref a_TooManyu_initu) = some (.type "function"))
    (nf_TooMany : PySem.W.findIn K (.ref a_TooMany) "limit" = some none)
    (ga_TooMany : PySem.W.findIn K (.ref a_TooMany) "__getattribute__" = some (some (.builtin "BaseException.__getattribute__")))
    (gg_TooMany : PySem.W.findIn K (.ref a_TooMany) "__getattr__" = some none)
    (hc_TooMany : PySem.W.hasDictIn K a_TooMany = true)
    (sb_InvalidReading_InvalidReading : PySem.W.subIn K (.ref a_InvalidReading) (.ref a_InvalidReading) = some true)
    (sb_InvalidReading_InvalidRow : PySem.W.subIn K (.ref a_InvalidReading) (.ref a_InvalidRow) = some false)
    (sb_InvalidReading_InvalidOperation : PySem.W.subIn K (.ref a_InvalidReading) (.ref a_InvalidOperation) = some false)
    (sb_InvalidReading_TooMany : PySem.W.subIn K (.ref a_InvalidReading) (.ref a_TooMany) = some false)
    (sb_InvalidRow_InvalidReading : PySem.W.subIn K (.ref a_InvalidRow) (.ref a_InvalidReading) = some false)
    (sb_InvalidRow_InvalidRow : PySem.W.subIn K (.ref a_InvalidRow) (.ref a_InvalidRow) = some true)
    (sb_InvalidRow_InvalidOperation : PySem.W.subIn K (.ref a_InvalidRow) (.ref a_InvalidOperation) = some false)
    (sb_InvalidRow_TooMany : PySem.W.subIn K (.ref a_InvalidRow) (.ref a_TooMany) = some false)
    (sb_InvalidOperation_InvalidReading : PySem.W.subIn K (.ref a_InvalidOperation) (.ref a_InvalidReading) = some false)
    (sb_InvalidOperation_InvalidRow : PySem.W.subIn K (.ref a_InvalidOperation) (.ref a_InvalidRow) = some false)
    (sb_InvalidOperation_InvalidOperation : PySem.W.subIn K (.ref a_InvalidOperation) (.ref a_InvalidOperation) = some true)
    (sb_InvalidOperation_TooMany : PySem.W.subIn K (.ref a_InvalidOperation) (.ref a_TooMany) = some false)
    (sb_TooMany_InvalidReading : PySem.W.subIn K (.ref a_TooMany) (.ref a_InvalidReading) = some false)
    (sb_TooMany_InvalidRow : PySem.W.subIn K (.ref a_TooMany) (.ref a_InvalidRow) = some false)
    (sb_TooMany_InvalidOperation : PySem.W.subIn K (.ref a_TooMany) (.ref a_InvalidOperation) = some false)
    (sb_TooMany_TooMany : PySem.W.subIn K (.ref a_TooMany) (.ref a_TooMany) = some true) : LamEndG l q w K 11 63 "script" mg fa := by
  have e := hfa.symm.trans (PySem.W.mg_of X G a__law)
  cases e
  have F_TooManyu_initu := fun_mk (st := s_TooManyu_initu) l__TooManyu_initu c__TooManyu_initu k__TooManyu_initu
  have b_TooManyu_initu := F_TooManyu_initu.binds (ps := ["self", "limit"]) fun _ _ _ _ _ _ us hl => match us, hl with | [_, _], _ => rfl
  have F_is_whole := fun_mk (st := s_is_whole) l__is_whole c__is_whole k__is_whole
  have b_is_whole := F_is_whole.binds (ps := ["value"]) fun _ _ _ _ _ _ us hl => match us, hl with | [_], _ => rfl
  have F_are_short := fun_mk (st := s_are_short) l__are_short c__are_short k__are_short
  have b_are_short := F_are_short.binds (ps := ["values"]) fun _ _ _ _ _ _ us hl => match us, hl with | [_], _ => rfl
  have F_are_whole := fun_mk (st := s_are_whole) l__are_whole c__are_whole k__are_whole
  have b_are_whole := F_are_whole.binds (ps := ["values"]) fun _ _ _ _ _ _ us hl => match us, hl with | [_], _ => rfl
  have F_is_short_row := fun_mk (st := s_is_short_row) l__is_short_row c__is_short_row k__is_short_row
  have b_is_short_row := F_is_short_row.binds (ps := ["value", "least", "most"]) fun _ _ _ _ _ _ us hl => match us, hl with | [_, _, _], _ => rfl
  have F_is_whole_row := fun_mk (st := s_is_whole_row) l__is_whole_row c__is_whole_row k__is_whole_row
  have b_is_whole_row := F_is_whole_row.binds (ps := ["value", "many"]) fun _ _ _ _ _ _ us hl => match us, hl with | [_, _], _ => rfl
  have F_are_short_rows := fun_mk (st := s_are_short_rows) l__are_short_rows c__are_short_rows k__are_short_rows
  have b_are_short_rows := F_are_short_rows.binds (ps := ["value", "most_rows", "most_length"]) fun _ _ _ _ _ _ us hl => match us, hl with | [_, _, _], _ => rfl
  have F_are_ascending := fun_mk (st := s_are_ascending) l__are_ascending c__are_ascending k__are_ascending
  have b_are_ascending := F_are_ascending.binds (ps := ["values"]) fun _ _ _ _ _ _ us hl => match us, hl with | [_], _ => rfl
  have F_product_of := fun_mk (st := s_product_of) l__product_of c__product_of k__product_of
  have b_product_of := F_product_of.binds (ps := ["one", "other"]) fun _ _ _ _ _ _ us hl => match us, hl with | [_, _], _ => rfl
  have F_bezout := fun_mk (st := s_bezout) l__bezout c__bezout k__bezout
  have b_bezout := F_bezout.binds (ps := ["one", "other"]) fun _ _ _ _ _ _ us hl => match us, hl with | [_, _], _ => rfl
  have F_is_lot := fun_mk (st := s_is_lot) l__is_lot c__is_lot k__is_lot
  have b_is_lot := F_is_lot.binds (ps := ["value"]) fun _ _ _ _ _ _ us hl => match us, hl with | [_], _ => rfl
  have F_is_reading := fun_mk (st := s_is_reading) l__is_reading c__is_reading k__is_reading
  have b_is_reading := F_is_reading.binds (ps := ["value"]) fun _ _ _ _ _ _ us hl => match us, hl with | [_], _ => rfl
  have F_need_reading := fun_mk (st := s_need_reading) l__need_reading c__need_reading k__need_reading
  have b_need_reading := F_need_reading.binds (ps := ["reading"]) fun _ _ _ _ _ _ us hl => match us, hl with | [_], _ => rfl
  have F_det := fun_mk (st := s_det) l__det c__det k__det
  have b_det := F_det.binds (ps := ["one", "other"]) fun _ _ _ _ _ _ us hl => match us, hl with | [_, _], _ => rfl
  have F_quarter_of := fun_mk (st := s_quarter_of) l__quarter_of c__quarter_of k__quarter_of
  have b_quarter_of := F_quarter_of.binds (ps := ["row"]) fun _ _ _ _ _ _ us hl => match us, hl with | [_], _ => rfl
  have F_is_ahead := fun_mk (st := s_is_ahead) l__is_ahead c__is_ahead k__is_ahead
  have b_is_ahead := F_is_ahead.binds (ps := ["one", "other"]) fun _ _ _ _ _ _ us hl => match us, hl with | [_, _], _ => rfl
  have F_are_in_turn := fun_mk (st := s_are_in_turn) l__are_in_turn c__are_in_turn k__are_in_turn
  have b_are_in_turn := F_are_in_turn.binds (ps := ["rows"]) fun _ _ _ _ _ _ us hl => match us, hl with | [_], _ => rfl
  have F_turn_key := fun_mk (st := s_turn_key) l__turn_key c__turn_key k__turn_key
  have b_turn_key := F_turn_key.binds (ps := ["row", "size"]) fun _ _ _ _ _ _ us hl => match us, hl with | [_, _], _ => rfl
  have F_in_turn := fun_mk (st := s_in_turn) l__in_turn c__in_turn k__in_turn
  have b_in_turn := F_in_turn.binds (ps := ["rows"]) fun _ _ _ _ _ _ us hl => match us, hl with | [_], _ => rfl
  have F_next_ray := fun_mk (st := s_next_ray) l__next_ray c__next_ray k__next_ray
  have b_next_ray := F_next_ray.binds (ps := ["ray", "other"]) fun _ _ _ _ _ _ us hl => match us, hl with | [_, _], _ => rfl
  have F_rays_between := fun_mk (st := s_rays_between) l__rays_between c__rays_between k__rays_between
  have b_rays_between := F_rays_between.binds (ps := ["ray", "other", "most"]) fun _ _ _ _ _ _ us hl => match us, hl with | [_, _, _], _ => rfl
  have F_smoothed := fun_mk (st := s_smoothed) l__smoothed c__smoothed k__smoothed
  have b_smoothed := F_smoothed.binds (ps := ["rays", "most"]) fun _ _ _ _ _ _ us hl => match us, hl with | [_, _], _ => rfl
  have F_is_ray := fun_mk (st := s_is_ray) l__is_ray c__is_ray k__is_ray
  have b_is_ray := F_is_ray.binds (ps := ["value"]) fun _ _ _ _ _ _ us hl => match us, hl with | [_], _ => rfl
  have F_are_bends := fun_mk (st := s_are_bends) l__are_bends c__are_bends k__are_bends
  have b_are_bends := F_are_bends.binds (ps := ["value"]) fun _ _ _ _ _ _ us hl => match us, hl with | [_], _ => rfl
  have F_is_round := fun_mk (st := s_is_round) l__is_round c__is_round k__is_round
  have b_is_round := F_is_round.binds (ps := ["value"]) fun _ _ _ _ _ _ us hl => match us, hl with | [_], _ => rfl
  have F_is_smooth := fun_mk (st := s_is_smooth) l__is_smooth c__is_smooth k__is_smooth
  have b_is_smooth := F_is_smooth.binds (ps := ["value"]) fun _ _ _ _ _ _ us hl => match us, hl with | [_], _ => rfl
  have F_need_told := fun_mk (st := s_need_told) l__need_told c__need_told k__need_told
  have b_need_told := F_need_told.binds (ps := ["told"]) fun _ _ _ _ _ _ us hl => match us, hl with | [_], _ => rfl
  have F_need_ray := fun_mk (st := s_need_ray) l__need_ray c__need_ray k__need_ray
  have b_need_ray := F_need_ray.binds (ps := ["ray"]) fun _ _ _ _ _ _ us hl => match us, hl with | [_], _ => rfl
  have F_need_fan := fun_mk (st := s_need_fan) l__need_fan c__need_fan k__need_fan
  have b_need_fan := F_need_fan.binds (ps := ["fan"]) fun _ _ _ _ _ _ us hl => match us, hl with | [_], _ => rfl
  have F_need_plane_row := fun_mk (st := s_need_plane_row) l__need_plane_row c__need_plane_row k__need_plane_row
  have b_need_plane_row := F_need_plane_row.binds (ps := ["row"]) fun _ _ _ _ _ _ us hl => match us, hl with | [_], _ => rfl
  have F_need_plane_reading := fun_mk (st := s_need_plane_reading) l__need_plane_reading c__need_plane_reading k__need_plane_reading
  have b_need_plane_reading := F_need_plane_reading.binds (ps := ["reading"]) fun _ _ _ _ _ _ us hl => match us, hl with | [_], _ => rfl
  have F_round_of := fun_mk (st := s_round_of) l__round_of c__round_of k__round_of
  have b_round_of := F_round_of.binds (ps := ["reading"]) fun _ _ _ _ _ _ us hl => match us, hl with | [_], _ => rfl
  have F_forms_behind := fun_mk (st := s_forms_behind) l__forms_behind c__forms_behind k__forms_behind
  have b_forms_behind := F_forms_behind.binds (ps := ["told", "rows"]) fun _ _ _ _ _ _ us hl => match us, hl with | [_, _], _ => rfl
  have F_value_of_round := fun_mk (st := s_value_of_round) l__value_of_round c__value_of_round k__value_of_round
  have b_value_of_round := F_value_of_round.binds (ps := ["told", "row"]) fun _ _ _ _ _ _ us hl => match us, hl with | [_, _], _ => rfl
  have F_form_behind := fun_mk (st := s_form_behind) l__form_behind c__form_behind k__form_behind
  have b_form_behind := F_form_behind.binds (ps := ["told", "row"]) fun _ _ _ _ _ _ us hl => match us, hl with | [_, _], _ => rfl
  have F_put_between := fun_mk (st := s_put_between) l__put_between c__put_between k__put_between
  have b_put_between := F_put_between.binds (ps := ["ray", "other"]) fun _ _ _ _ _ _ us hl => match us, hl with | [_, _], _ => rfl
  have F_smooth_fan := fun_mk (st := s_smooth_fan) l__smooth_fan c__smooth_fan k__smooth_fan
  have b_smooth_fan := F_smooth_fan.binds (ps := ["rays"]) fun _ _ _ _ _ _ us hl => match us, hl with | [_], _ => rfl
  have F_values_on := fun_mk (st := s_values_on) l__values_on c__values_on k__values_on
  have b_values_on := F_values_on.binds (ps := ["told", "fan"]) fun _ _ _ _ _ _ us hl => match us, hl with | [_, _], _ => rfl
  have F_round_by_values := fun_mk (st := s_round_by_values) l__round_by_values c__round_by_values k__round_by_values
  have b_round_by_values := F_round_by_values.binds (ps := ["fan", "values"]) fun _ _ _ _ _ _ us hl => match us, hl with | [_, _], _ => rfl
  have F__law_pack := fun_mk (st := s__law_pack) l___law_pack c___law_pack k___law_pack
  have b__law_pack := F__law_pack.binds (ps := ["script", "spot"]) fun _ _ _ _ _ _ us hl => match us, hl with | [_, _], _ => rfl
  have F__law_dealt := fun_mk (st := s__law_dealt) l___law_dealt c___law_dealt k___law_dealt
  have b__law_dealt := F__law_dealt.binds (ps := ["pack", "total"]) fun _ _ _ _ _ _ us hl => match us, hl with | [_, _], _ => rfl
  have F__law_one_of := fun_mk (st := s__law_one_of) l___law_one_of c___law_one_of k___law_one_of
  have b__law_one_of := F__law_one_of.binds (ps := ["pack", "items"]) fun _ _ _ _ _ _ us hl => match us, hl with | [_, _], _ => rfl
  have F__law_due := fun_mk (st := s__law_due) l___law_due c___law_due k___law_due
  have b__law_due := F__law_due.binds (ps := ["words"]) fun _ _ _ _ _ _ us hl => match us, hl with | [_], _ => rfl
  have F__law_word := fun_mk (st := s__law_word) l___law_word c___law_word k___law_word
  have b__law_word := F__law_word.binds (ps := ["call"]) fun _ _ _ _ _ _ us hl => match us, hl with | [_], _ => rfl
  have F__law_right := fun_mk (st := s__law_right) l___law_right c___law_right k___law_right
  have b__law_right := F__law_right.binds (ps := ["pack"]) fun _ _ _ _ _ _ us hl => match us, hl with | [_], _ => rfl
  have F_law := fun_mk (st := s_law) l__law c__law k__law
  have b_law := F_law.binds (ps := ["script"]) fun _ _ _ _ _ _ us hl => match us, hl with | [_], _ => rfl
  let T : Txt K mg := { a_TooManyu_initu := a_TooManyu_initu, d_TooManyu_initu := _, F_TooManyu_initu := F_TooManyu_initu, b_TooManyu_initu := b_TooManyu_initu, a_is_whole := a_is_whole, d_is_whole := _, F_is_whole := F_is_whole, b_is_whole := b_is_whole, m_is_whole := PySem.W.mg_of X G a__is_whole, k_is_whole := k__is_whole, a_are_short := a_are_short, d_are_short := _, F_are_short := F_are_short, b_are_short := b_are_short, m_are_short := PySem.W.mg_of X G a__are_short, k_are_short := k__are_short, a_are_whole := a_are_whole, d_are_whole := _, F_are_whole := F_are_whole, b_are_whole := b_are_whole, m_are_whole := PySem.W.mg_of X G a__are_whole, k_are_whole := k__are_whole, a_is_short_row := a_is_short_row, d_is_short_row := _, F_is_short_row := F_is_short_row, b_is_short_row := b_is_short_row, m_is_short_row := PySem.W.mg_of X G a__is_short_row, k_is_short_row := k__is_short_row, a_is_whole_row := a_is_whole_row, d_is_whole_row := _, F_is_whole_row := F_is_whole_row, b_is_whole_row := b_is_whole_row, m_is_whole_row := PySem.W.mg_of X G a__is_whole_row, k_is_whole_row := k__is_whole_row, a_are_short_rows := a_are_short_rows, d_are_short_rows := _, F_are_short_rows := F_are_short_rows, b_are_short_rows := b_are_short_rows, m_are_short_rows := PySem.W.mg_of X G a__are_short_rows, k_are_short_rows := k__are_short_rows, a_are_ascending := a_are_ascending, d_are_ascending := _, F_are_ascending := F_are_ascending, b_are_ascending := b_are_ascending, m_are_ascending := PySem.W.mg_of X G a__are_ascending, k_are_ascending := k__are_ascending, a_product_of := a_product_of, d_product_of := _, F_product_of := F_product_of, b_product_of := b_product_of, m_product_of := PySem.W.mg_of X G a__product_of, k_product_of := k__product_of, a_bezout := a_bezout, d_bezout := _, F_bezout := F_bezout, b_bezout := b_bezout, m_bezout := PySem.W.mg_of X G a__bezout, k_bezout := k__bezout, a_is_lot := a_is_lot, d_is_lot := _, F_is_lot := F_is_lot, b_is_lot := b_is_lot, m_is_lot := PySem.W.mg_of X G a__is_lot, k_is_lot := k__is_lot, a_is_reading := a_is_reading, d_is_reading := _, F_is_reading := F_is_reading, b_is_reading := b_is_reading, m_is_reading := PySem.W.mg_of X G a__is_reading, k_is_reading := k__is_reading, a_need_reading := a_need_reading, d_need_reading := _, F_need_reading := F_need_reading, b_need_reading := b_need_reading, m_need_reading := PySem.W.mg_of X G a__need_reading, k_need_reading := k__need_reading, a_det := a_det, d_det := _, F_det := F_det, b_det := b_det, m_det := PySem.W.mg_of X G a__det, k_det := k__det, a_quarter_of := a_quarter_of, d_quarter_of := _, F_quarter_of := F_quarter_of, b_quarter_of := b_quarter_of, m_quarter_of := PySem.W.mg_of X G a__quarter_of, k_quarter_of := k__quarter_of, a_is_ahead := a_is_ahead, d_is_ahead := _, F_is_ahead := F_is_ahead, b_is_ahead := b_is_ahead, m_is_ahead := PySem.W.mg_of X G a__is_ahead, k_is_ahead := k__is_ahead, a_are_in_turn := a_are_in_turn, d_are_in_turn := _, F_are_in_turn := F_are_in_turn, b_are_in_turn := b_are_in_turn, m_are_in_turn := PySem.W.mg_of X G a__are_in_turn, k_are_in_turn := k__are_in_turn, a_turn_key := a_turn_key, d_turn_key := _, F_turn_key := F_turn_key, b_turn_key := b_turn_key, m_turn_key := PySem.W.mg_of X G a__turn_key, k_turn_key := k__turn_key, a_in_turn := a_in_turn, d_in_turn := _, F_in_turn := F_in_turn, b_in_turn := b_in_turn, m_in_turn := PySem.W.mg_of X G a__in_turn, k_in_turn := k__in_turn, a_next_ray := a_next_ray, d_next_ray := _, F_next_ray := F_next_ray, b_next_ray := b_next_ray, m_next_ray := PySem.W.mg_of X G a__next_ray, k_next_ray := k__next_ray, a_rays_between := a_rays_between, d_rays_between := _, F_rays_between := F_rays_between, b_rays_between := b_rays_between, m_rays_between := PySem.W.mg_of X G a__rays_between, k_rays_between := k__rays_between, a_smoothed := a_smoothed, d_smoothed := _, F_smoothed := F_smoothed, b_smoothed := b_smoothed, m_smoothed := PySem.W.mg_of X G a__smoothed, k_smoothed := k__smoothed, a_is_ray := a_is_ray, d_is_ray := _, F_is_ray := F_is_ray, b_is_ray := b_is_ray, m_is_ray := PySem.W.mg_of X G a__is_ray, k_is_ray := k__is_ray, a_are_bends := a_are_bends, d_are_bends := _, F_are_bends := F_are_bends, b_are_bends := b_are_bends, m_are_bends := PySem.W.mg_of X G a__are_bends, k_are_bends := k__are_bends, a_is_round := a_is_round, d_is_round := _, F_is_round := F_is_round, b_is_round := b_is_round, m_is_round := PySem.W.mg_of X G a__is_round, k_is_round := k__is_round, a_is_smooth := a_is_smooth, d_is_smooth := _, F_is_smooth := F_is_smooth, b_is_smooth := b_is_smooth, m_is_smooth := PySem.W.mg_of X G a__is_smooth, k_is_smooth := k__is_smooth, a_need_told := a_need_told, d_need_told := _, F_need_told := F_need_told, b_need_told := b_need_told, m_need_told := PySem.W.mg_of X G a__need_told, k_need_told := k__need_told, a_need_ray := a_need_ray, d_need_ray := _, F_need_ray := F_need_ray, b_need_ray := b_need_ray, m_need_ray := PySem.W.mg_of X G a__need_ray, k_need_ray := k__need_ray, a_need_fan := a_need_fan, d_need_fan := _, F_need_fan := F_need_fan, b_need_fan := b_need_fan, m_need_fan := PySem.W.mg_of X G a__need_fan, k_need_fan := k__need_fan, a_need_plane_row := a_need_plane_row, d_need_plane_row := _, F_need_plane_row := F_need_plane_row, b_need_plane_row := b_need_plane_row, m_need_plane_row := PySem.W.mg_of X G a__need_plane_row, k_need_plane_row := k__need_plane_row, a_need_plane_reading := a_need_plane_reading, d_need_plane_reading := _, F_need_plane_reading := F_need_plane_reading, b_need_plane_reading := b_need_plane_reading, m_need_plane_reading := PySem.W.mg_of X G a__need_plane_reading, k_need_plane_reading := k__need_plane_reading, a_round_of := a_round_of, d_round_of := _, F_round_of := F_round_of, b_round_of := b_round_of, m_round_of := PySem.W.mg_of X G a__round_of, k_round_of := k__round_of, a_forms_behind := a_forms_behind, d_forms_behind := _, F_forms_behind := F_forms_behind, b_forms_behind := b_forms_behind, m_forms_behind := PySem.W.mg_of X G a__forms_behind, k_forms_behind := k__forms_behind, a_value_of_round := a_value_of_round, d_value_of_round := _, F_value_of_round := F_value_of_round, b_value_of_round := b_value_of_round, m_value_of_round := PySem.W.mg_of X G a__value_of_round, k_value_of_round := k__value_of_round, a_form_behind := a_form_behind, d_form_behind := _, F_form_behind := F_form_behind, b_form_behind := b_form_behind, m_form_behind := PySem.W.mg_of X G a__form_behind, k_form_behind := k__form_behind, a_put_between := a_put_between, d_put_between := _, F_put_between := F_put_between, b_put_between := b_put_between, m_put_between := PySem.W.mg_of X G a__put_between, k_put_between := k__put_between, a_smooth_fan := a_smooth_fan, d_smooth_fan := _, F_smooth_fan := F_smooth_fan, b_smooth_fan := b_smooth_fan, m_smooth_fan := PySem.W.mg_of X G a__smooth_fan, k_smooth_fan := k__smooth_fan, a_values_on := a_values_on, d_values_on := _, F_values_on := F_values_on, b_values_on := b_values_on, m_values_on := PySem.W.mg_of X G a__values_on, k_values_on := k__values_on, a_round_by_values := a_round_by_values, d_round_by_values := _, F_round_by_values := F_round_by_values, b_round_by_values := b_round_by_values, m_round_by_values := PySem.W.mg_of X G a__round_by_values, k_round_by_values := k__round_by_values, a__law_pack := a__law_pack, d__law_pack := _, F__law_pack := F__law_pack, b__law_pack := b__law_pack, m__law_pack := PySem.W.mg_of X G a___law_pack, k__law_pack := k___law_pack, a__law_dealt := a__law_dealt, d__law_dealt := _, F__law_dealt := F__law_dealt, b__law_dealt := b__law_dealt, m__law_dealt := PySem.W.mg_of X G a___law_dealt, k__law_dealt := k___law_dealt, a__law_one_of := a__law_one_of, d__law_one_of := _, F__law_one_of := F__law_one_of, b__law_one_of := b__law_one_of, m__law_one_of := PySem.W.mg_of X G a___law_one_of, k__law_one_of := k___law_one_of, a__law_due := a__law_due, d__law_due := _, F__law_due := F__law_due, b__law_due := b__law_due, m__law_due := PySem.W.mg_of X G a___law_due, k__law_due := k___law_due, a__law_word := a__law_word, d__law_word := _, F__law_word := F__law_word, b__law_word := b__law_word, m__law_word := PySem.W.mg_of X G a___law_word, k__law_word := k___law_word, a__law_right := a__law_right, d__law_right := _, F__law_right := F__law_right, b__law_right := b__law_right, m__law_right := PySem.W.mg_of X G a___law_right, k__law_right := k___law_right, a_law := fa, d_law := _, F_law := F_law, b_law := b_law, t_BEYOND := t_BEYOND, m_BEYOND := PySem.W.mg_of X G c_BEYOND, t_BENEATH := t_BENEATH, m_BENEATH := PySem.W.mg_of X G c_BENEATH, t_MOST_POINTS := t_MOST_POINTS, m_MOST_POINTS := PySem.W.mg_of X G c_MOST_POINTS, t_MOST_MEMBERS := t_MOST_MEMBERS, m_MOST_MEMBERS := PySem.W.mg_of X G c_MOST_MEMBERS, t_MOST_RAYS := t_MOST_RAYS, m_MOST_RAYS := PySem.W.mg_of X G c_MOST_RAYS, t_MOST_BENDS := t_MOST_BENDS, m_MOST_BENDS := PySem.W.mg_of X G c_MOST_BENDS, n_isinstance := PySem.W.mg_none_of X G z_isinstance, n_int := PySem.W.mg_none_of X G z_int, n_bool := PySem.W.mg_none_of X G z_bool, n_tuple := PySem.W.mg_none_of X G z_tuple, n_list := PySem.W.mg_none_of X G z_list, n_len := PySem.W.mg_none_of X G z_len, n_sum := PySem.W.mg_none_of X G z_sum, n_all := PySem.W.mg_none_of X G z_all, n_any := PySem.W.mg_none_of X G z_any, n_zip := PySem.W.mg_none_of X G z_zip, n_max := PySem.W.mg_none_of X G z_max, n_min := PySem.W.mg_none_of X G z_min, n_abs := PySem.W.mg_none_of X G z_abs, n_range := PySem.W.mg_none_of X G z_range, n_enumerate := PySem.W.mg_none_of X G z_enumerate, n_reversed := PySem.W.mg_none_of X G z_reversed, n_sorted := PySem.W.mg_none_of X G z_sorted, n_str := PySem.W.mg_none_of X G z_str, n_repr := PySem.W.mg_none_of X G z_repr, n_set := PySem.W.mg_none_of X G z_set, a_InvalidReading := a_InvalidReading, m_InvalidReading := PySem.W.mg_of X G n_InvalidReading, k_InvalidReading := k_InvalidReading, be_InvalidReading := be_InvalidReading, ty_InvalidReading := ty_InvalidReading, x_InvalidReading := x_InvalidReading, a_InvalidRow := a_InvalidRow, m_InvalidRow := PySem.W.mg_of X G n_InvalidRow, k_InvalidRow := k_InvalidRow, be_InvalidRow := be_InvalidRow, ty_InvalidRow := ty_InvalidRow, x_InvalidRow := x_InvalidRow, a_InvalidOperation := a_InvalidOperation, m_InvalidOperation := PySem.W.mg_of X G n_InvalidOperation, k_InvalidOperation := k_InvalidOperation, be_InvalidOperation := be_InvalidOperation, ty_InvalidOperation := ty_InvalidOperation, x_InvalidOperation := x_InvalidOperation, a_TooMany := a_TooMany, m_TooMany := PySem.W.mg_of X G n_TooMany, k_TooMany := k_TooMany, be_TooMany := be_TooMany, ty_TooMany := ty_TooMany, ox_TooMany := ⟨⟨"OverflowError", "OverflowError.__new__", "OverflowError.__init__", _, ⟨PySem.F.excBase_OverflowError, PySem.F.store_OverflowError, by decide +kernel⟩, ol_TooMany⟩, os_TooMany, be_TooMany, ty_TooMany, k_TooMany⟩, oi_TooMany := a__TooManyu_initu, ot_TooMany := ot_TooMany, nf_TooMany := nf_TooMany, xf_TooMany := ⟨ga_TooMany, gg_TooMany, be_TooMany, hc_TooMany⟩, em_InvalidReading_InvalidReading := RW.exm_of be_InvalidReading ic_InvalidReading ty_InvalidReading sb_InvalidReading_InvalidReading, em_InvalidReading_InvalidRow := RW.exm_of be_InvalidRow ic_InvalidRow ty_InvalidRow sb_InvalidReading_InvalidRow, em_InvalidReading_InvalidOperation := RW.exm_of be_InvalidOperation ic_InvalidOperation ty_InvalidOperation sb_InvalidReading_InvalidOperation, em_InvalidReading_TooMany := RW.exm_of be_TooMany ic_TooMany ty_TooMany sb_InvalidReading_TooMany, em_InvalidRow_InvalidReading := RW.exm_of be_InvalidReading ic_InvalidReading ty_InvalidReading sb_InvalidRow_InvalidReading, em_InvalidRow_InvalidRow := RW.exm_of be_InvalidRow ic_InvalidRow ty_InvalidRow sb_InvalidRow_InvalidRow, em_InvalidRow_InvalidOperation := RW.exm_of be_InvalidOperation ic_InvalidOperation ty_InvalidOperation sb_InvalidRow_InvalidOperation, em_InvalidRow_TooMany := RW.exm_of be_TooMany ic_TooMany ty_TooMany sb_InvalidRow_TooMany, em_InvalidOperation_InvalidReading := RW.exm_of be_InvalidReading ic_InvalidReading ty_InvalidReading sb_InvalidOperation_InvalidReading, em_InvalidOperation_InvalidRow := RW.exm_of be_InvalidRow ic_InvalidRow ty_InvalidRow sb_InvalidOperation_InvalidRow, em_InvalidOperation_InvalidOperation := RW.exm_of be_InvalidOperation ic_InvalidOperation ty_InvalidOperation sb_InvalidOperation_InvalidOperation, em_InvalidOperation_TooMany := RW.exm_of be_TooMany ic_TooMany ty_TooMany sb_InvalidOperation_TooMany, em_TooMany_InvalidReading := RW.exm_of be_InvalidReading ic_InvalidReading ty_InvalidReading sb_TooMany_InvalidReading, em_TooMany_InvalidRow := RW.exm_of be_InvalidRow ic_InvalidRow ty_InvalidRow sb_TooMany_InvalidRow, em_TooMany_InvalidOperation := RW.exm_of be_InvalidOperation ic_InvalidOperation ty_InvalidOperation sb_TooMany_InvalidOperation, em_TooMany_TooMany := RW.exm_of be_TooMany ic_TooMany ty_TooMany sb_TooMany_TooMany, c__law_right := c__law_right, P__law_right := P__law_right, lk__law_right := ⟨_, _, _, _, _, _, _, _, rfl, l___law_right, c___law_right⟩, c_law := c_law, P_law := P_law, lk_law := ⟨_, _, _, _, _, _, _, _, rfl, l__law, c__law⟩, pne := by simp [pn__law_right_law], m_gcd := PySem.W.mg_of X G x__gcd, a_EAST := a_EAST, m_EAST := PySem.W.mg_of X G x__EAST, e_EAST := (by obtain ⟨t0, t1, n, sl, e⟩ := x__E; exact rep_cst2 e), a_AXES := a_AXES, m_AXES := PySem.W.mg_of X G x__AXES, e_AXES := (by obtain ⟨b0, b1, b2, b3, n, sl, e, ⟨_, _, _, _, e0⟩, ⟨_, _, _, _, e1⟩, ⟨_, _, _, _, e2⟩, ⟨_, _, _, _, e3⟩⟩ := x__A; exact rep_cst4 e (rep_cst2 e0) (rep_cst2 e1) (rep_cst2 e2) (rep_cst2 e3)) }
  refine ⟨_, [(c__law_right, P__law_right), (c_law, P_law)], SpD K (gLaw T), ?_, ?_, fun s v => .of_eq rfl, fun H a ns hl _ hH hS => ?_, fun base _ _ hTB => ok_law T (hTB (c_law, P_law) (by simp)) (hTB (c__law_right, P__law_right) (by simp))⟩
  · intro p hp
    simp only [List.mem_cons, List.not_mem_nil, or_false] at hp
    rcases hp with rfl | rfl
    · obtain ⟨d, hd⟩ := rec_of rf__law_right
      exact ⟨"_law_right", d, hd, tab_in a___law_right l___law_right rfl lc__law_right lp__law_right⟩
    · obtain ⟨d, hd⟩ := rec_of rf_law
      exact ⟨"law", d, hd, tab_in a__law l__law rfl lc_law lp_law⟩
  · intro p hp
    simp only [List.mem_cons, List.not_mem_nil, or_false] at hp
    rcases hp with rfl | rfl
    · exact np__law_right
    · exact np_law
  · obtain ⟨B, c, r⟩ := tabs_start (Ts := tabs T) (by simpa [tabs] using T.pne) (fun p hp => by
      simp only [tabs, List.mem_cons, List.not_mem_nil, or_false] at hp
      rcases hp with rfl | rfl
      · exact hH (c__law_right, P__law_right) (by simp)
      · exact hH (c_law, P_law) (by simp)) hS
    exact ⟨B, _, _, [.d (.scr ns)], .bl true, _, c, .cons r .nil, ⟨ns, rfl, hl, all_tabs, rfl, rfl⟩, fun v B' H' _ _ r => by cases r; rfl⟩
end N46
open PySem PySem.W PyProof.Rows
set_option maxRecDepth 100000 in
set_option maxHeartbeats 0 in
theorem PySem.Challenge.cw_rampworks_k46_errors_of_fans_holds : PySem.Challenge.rw_rampworks_k46_errors_of_fans.Holds := by
  w_on; o_law; k_head; (case hw => w_witness2)
  k_fill
  refine RW.walk_lamG (k := 11) (n := 63) (x := "script") (l := PySem.Challenge.rw_rampworks_k46_errors_of_fans) rfl (by decide) rfl ⟨rfl, by decide, by decide⟩ (fun w h Y => PySem.W.km_in_of Y) ?F
  case F =>
    intro w mg fa h KX G hmg
    refine' N46.all_mk KX G hmg ?c_BEYOND ?c_BENEATH ?c_MOST_POINTS ?c_MOST_MEMBERS ?c_MOST_RAYS ?c_MOST_BENDS ?n_InvalidReading ?n_InvalidRow ?n_InvalidOperation ?n_TooMany ?a__TooManyu_initu ?i__TooManyu_initu ?l__TooManyu_initu ?c__TooManyu_initu ?k__TooManyu_initu ?a__is_whole ?l__is_whole ?c__is_whole ?k__is_whole ?a__are_short ?l__are_short ?c__are_short ?k__are_short ?a__are_whole ?l__are_whole ?c__are_whole ?k__are_whole ?a__is_short_row ?l__is_short_row ?c__is_short_row ?k__is_short_row ?a__is_whole_row ?l__is_whole_row ?c__is_whole_row ?k__is_whole_row ?a__are_short_rows ?l__are_short_rows ?c__are_short_rows ?k__are_short_rows ?a__are_ascending ?l__are_ascending ?c__are_ascending ?k__are_ascending ?a__product_of ?l__product_of ?c__product_of ?k__product_of ?a__bezout ?l__bezout ?c__bezout ?k__bezout ?a__is_lot ?l__is_lot ?c__is_lot ?k__is_lot ?a__is_reading ?l__is_reading ?c__is_reading ?k__is_reading ?a__need_reading ?l__need_reading ?c__need_reading ?k__need_reading ?a__det ?l__det ?c__det ?k__det ?a__quarter_of ?l__quarter_of ?c__quarter_of ?k__quarter_of ?a__is_ahead ?l__is_ahead ?c__is_ahead ?k__is_ahead ?a__are_in_turn ?l__are_in_turn ?c__are_in_turn ?k__are_in_turn ?a__turn_key ?l__turn_key ?c__turn_key ?k__turn_key ?a__in_turn ?l__in_turn ?c__in_turn ?k__in_turn ?a__next_ray ?l__next_ray ?c__next_ray ?k__next_ray ?a__rays_between ?l__rays_between ?c__rays_between ?k__rays_between ?a__smoothed ?l__smoothed ?c__smoothed ?k__smoothed ?a__is_ray ?l__is_ray ?c__is_ray ?k__is_ray ?a__are_bends ?l__are_bends ?c__are_bends ?k__are_bends ?a__is_round ?l__is_round ?c__is_round ?k__is_round ?a__is_smooth ?l__is_smooth ?c__is_smooth ?k__is_smooth ?a__need_told ?l__need_told ?c__need_told ?k__need_told ?a__need_ray ?l__need_ray ?c__need_ray ?k__need_ray ?a__need_fan ?l__need_fan ?c__need_fan ?k__need_fan ?a__need_plane_row ?l__need_plane_row ?c__need_plane_row ?k__need_plane_row ?a__need_plane_reading ?l__need_plane_reading ?c__need_plane_reading ?k__need_plane_reading ?a__round_of ?l__round_of ?c__round_of ?k__round_of ?a__forms_behind ?l__forms_behind ?c__forms_behind ?k__forms_behind ?a__value_of_round ?l__value_of_round ?c__value_of_round ?k__value_of_round ?a__form_behind ?l__form_behind ?c__form_behind ?k__form_behind ?a__put_between ?l__put_between ?c__put_between ?k__put_between ?a__smooth_fan ?l__smooth_fan ?c__smooth_fan ?k__smooth_fan ?a__values_on ?l__values_on ?c__values_on ?k__values_on ?a__round_by_values ?l__round_by_values ?c__round_by_values ?k__round_by_values ?a___law_pack ?l___law_pack ?c___law_pack ?k___law_pack ?a___law_dealt ?l___law_dealt ?c___law_dealt ?k___law_dealt ?a___law_one_of ?l___law_one_of ?c___law_one_of ?k___law_one_of ?a___law_due ?l___law_due ?c___law_due ?k___law_due ?a___law_word ?l___law_word ?c___law_word ?k___law_word ?a___law_right ?l___law_right ?c___law_right ?k___law_right ?lc__law_right ?lp__law_right ?np__law_right ?rf__law_right ?a__law ?l__law ?c__law ?k__law ?lc_law ?lp_law ?np_law ?rf_law ?pn__law_right_law ?z_isinstance ?z_int ?z_bool ?z_tuple ?z_list ?z_len ?z_sum ?z_all ?z_any ?z_zip ?z_max ?z_min ?z_abs ?z_range ?z_enumerate ?z_reversed ?z_sorted ?z_str ?z_repr ?z_set ?x__gcd ?x__EAST ?x__AXES ?x__E ?x__A ?k_InvalidReading ?be_InvalidReading ?ty_InvalidReading ?ic_InvalidReading ?x_InvalidReading ?k_InvalidRow ?be_InvalidRow ?ty_InvalidRow ?ic_InvalidRow ?x_InvalidRow ?k_InvalidOperation ?be_InvalidOperation ?ty_InvalidOperation ?ic_InvalidOperation ?x_InvalidOperation ?k_TooMany ?be_TooMany ?ty_TooMany ?ic_TooMany ?ol_TooMany ?os_TooMany ?ot_TooMany ?nf_TooMany ?ga_TooMany ?gg_TooMany ?hc_TooMany ?sb_InvalidReading_InvalidReading ?sb_InvalidReading_InvalidRow ?sb_InvalidReading_InvalidOperation ?sb_InvalidReading_TooMany ?sb_InvalidRow_InvalidReading ?sb_InvalidRow_InvalidRow ?sb_InvalidRow_InvalidOperation ?sb_InvalidRow_TooMany ?sb_InvalidOperation_InvalidReading ?sb_InvalidOperation_InvalidRow ?sb_InvalidOperation_InvalidOperation ?sb_InvalidOperation_TooMany ?sb_TooMany_InvalidReading ?sb_TooMany_InvalidRow ?sb_TooMany_InvalidOperation ?sb_TooMany_TooMany
    (case c_BEYOND => k_is)
    (case c_BENEATH => k_is)
    (case c_MOST_POINTS => k_is)
    (case c_MOST_MEMBERS => k_is)
    (case c_MOST_RAYS => k_is)
    (case c_MOST_BENDS => k_is)
    (case n_InvalidReading => k_is)
    (case n_InvalidRow => k_is)
    (case n_InvalidOperation => k_is)
    (case n_TooMany => k_is)
    (case a__TooManyu_initu => k_is)
    (case i__TooManyu_initu => k_is)
    (case l__TooManyu_initu => k_is)
    (case c__TooManyu_initu => k_is)
    (case k__TooManyu_initu => k_is)
    (case a__is_whole => k_is)
    (case l__is_whole => k_is)
    (case c__is_whole => k_is)
    (case k__is_whole => k_is)
    (case a__are_short => k_is)
    (case l__are_short => k_is)
    (case c__are_short => k_is)
    (case k__are_short => k_is)
    (case a__are_whole => k_is)
    (case l__are_whole => k_is)
    (case c__are_whole => k_is)
    (case k__are_whole => k_is)
    (case a__is_short_row => k_is)
    (case l__is_short_row => k_is)
    (case c__is_short_row => k_is)
    (case k__is_short_row => k_is)
    (case a__is_whole_row => k_is)
    (case l__is_whole_row => k_is)
    (case c__is_whole_row => k_is)
    (case k__is_whole_row => k_is)
    (case a__are_short_rows => k_is)
    (case l__are_short_rows => k_is)
    (case c__are_short_rows => k_is)
    (case k__are_short_rows => k_is)
    (case a__are_ascending => k_is)
    (case l__are_ascending => k_is)
    (case c__are_ascending => k_is)
    (case k__are_ascending => k_is)
    (case a__product_of => k_is)
    (case l__product_of => k_is)
    (case c__product_of => k_is)
    (case k__product_of => k_is)
    (case a__bezout => k_is)
    (case l__bezout => k_is)
    (case c__bezout => k_is)
    (case k__bezout => k_is)
    (case a__is_lot => k_is)
    (case l__is_lot => k_is)
    (case c__is_lot => k_is)
    (case k__is_lot => k_is)
    (case a__is_reading => k_is)
    (case l__is_reading => k_is)
    (case c__is_reading => k_is)
    (case k__is_reading => k_is)
    (case a__need_reading => k_is)
    (case l__need_reading => k_is)
    (case c__need_reading => k_is)
    (case k__need_reading => k_is)
    (case a__det => k_is)
    (case l__det => k_is)
    (case c__det => k_is)
    (case k__det => k_is)
    (case a__quarter_of => k_is)
    (case l__quarter_of => k_is)
    (case c__quarter_of => k_is)
    (case k__quarter_of => k_is)
    (case a__is_ahead => k_is)
    (case l__is_ahead => k_is)
    (case c__is_ahead => k_is)
    (case k__is_ahead => k_is)
    (case a__are_in_turn => k_is)
    (case l__are_in_turn => k_is)
    (case c__are_in_turn => k_is)
    (case k__are_in_turn => k_is)
    (case a__turn_key => k_is)
    (case l__turn_key => k_is)
    (case c__turn_key => k_is)
    (case k__turn_key => k_is)
    (case a__in_turn => k_is)
    (case l__in_turn => k_is)
    (case c__in_turn => k_is)
    (case k__in_turn => k_is)
    (case a__next_ray => k_is)
    (case l__next_ray => k_is)
    (case c__next_ray => k_is)
    (case k__next_ray => k_is)
    (case a__rays_between => k_is)
    (case l__rays_between => k_is)
    (case c__rays_between => k_is)
    (case k__rays_between => k_is)
    (case a__smoothed => k_is)
    (case l__smoothed => k_is)
    (case c__smoothed => k_is)
    (case k__smoothed => k_is)
    (case a__is_ray => k_is)
    (case l__is_ray => k_is)
    (case c__is_ray => k_is)
    (case k__is_ray => k_is)
    (case a__are_bends => k_is)
    (case l__are_bends => k_is)
    (case c__are_bends => k_is)
    (case k__are_bends => k_is)
    (case a__is_round => k_is)
    (case l__is_round => k_is)
    (case c__is_round => k_is)
    (case k__is_round => k_is)
    (case a__is_smooth => k_is)
    (case l__is_smooth => k_is)
    (case c__is_smooth => k_is)
    (case k__is_smooth => k_is)
    (case a__need_told => k_is)
    (case l__need_told => k_is)
    (case c__need_told => k_is)
    (case k__need_told => k_is)
    (case a__need_ray => k_is)
    (case l__need_ray => k_is)
    (case c__need_ray => k_is)
    (case k__need_ray => k_is)
    (case a__need_fan => k_is)
    (case l__need_fan => k_is)
    (case c__need_fan => k_is)
    (case k__need_fan => k_is)
    (case a__need_plane_row => k_is)
    (case l__need_plane_row => k_is)
    (case c__need_plane_row => k_is)
    (case k__need_plane_row => k_is)
    (case a__need_plane_reading => k_is)
    (case l__need_plane_reading => k_is)
    (case c__need_plane_reading => k_is)
    (case k__need_plane_reading => k_is)
    (case a__round_of => k_is)
    (case l__round_of => k_is)
    (case c__round_of => k_is)
    (case k__round_of => k_is)
    (case a__forms_behind => k_is)
    (case l__forms_behind => k_is)
    (case c__forms_behind => k_is)
    (case k__forms_behind => k_is)
    (case a__value_of_round => k_is)
    (case l__value_of_round => k_is)
    (case c__value_of_round => k_is)
    (case k__value_of_round => k_is)
    (case a__form_behind => k_is)
    (case l__form_behind => k_is)
    (case c__form_behind => k_is)
    (case k__form_behind => k_is)
    (case a__put_between => k_is)
    (case l__put_between => k_is)
    (case c__put_between => k_is)
    (case k__put_between => k_is)
    (case a__smooth_fan => k_is)
    (case l__smooth_fan => k_is)
    (case c__smooth_fan => k_is)
    (case k__smooth_fan => k_is)
    (case a__values_on => k_is)
    (case l__values_on => k_is)
    (case c__values_on => k_is)
    (case k__values_on => k_is)
    (case a__round_by_values => k_is)
    (case l__round_by_values => k_is)
    (case c__round_by_values => k_is)
    (case k__round_by_values => k_is)
    (case a___law_pack => k_is)
    (case l___law_pack => k_is)
    (case c___law_pack => k_is)
    (case k___law_pack => k_is)
    (case a___law_dealt => k_is)
    (case l___law_dealt => k_is)
    (case c___law_dealt => k_is)
    (case k___law_dealt => k_is)
    (case a___law_one_of => k_is)
    (case l___law_one_of => k_is)
    (case c___law_one_of => k_is)
    (case k___law_one_of => k_is)
    (case a___law_due => k_is)
    (case l___law_due => k_is)
    (case c___law_due => k_is)
    (case k___law_due => k_is)
    (case a___law_word => k_is)
    (case l___law_word => k_is)
    (case c___law_word => k_is)
    (case k___law_word => k_is)
    (case a___law_right => k_is)
    (case l___law_right => k_is)
    (case c___law_right => k_is)
    (case k___law_right => k_is)
    (case lc__law_right => k_is)
    (case lp__law_right => rfl)
    (case np__law_right => kernel_rfl)
    (case rf__law_right => decide +kernel)
    (case a__law => k_is)
    (case l__law => k_is)
    (case c__law => k_is)
    (case k__law => k_is)
    (case lc_law => k_is)
    (case lp_law => rfl)
    (case np_law => kernel_rfl)
    (case rf_law => decide +kernel)
    (case pn__law_right_law => decide)
    (case z_isinstance => k_is)
    (case z_int => k_is)
    (case z_bool => k_is)
    (case z_tuple => k_is)
    (case z_list => k_is)
    (case z_len => k_is)
    (case z_sum => k_is)
    (case z_all => k_is)
    (case z_any => k_is)
    (case z_zip => k_is)
    (case z_max => k_is)
    (case z_min => k_is)
    (case z_abs => k_is)
    (case z_range => k_is)
    (case z_enumerate => k_is)
    (case z_reversed => k_is)
    (case z_sorted => k_is)
    (case z_str => k_is)
    (case z_repr => k_is)
    (case z_set => k_is)
    (case x__gcd => k_is)
    (case x__EAST => k_is)
    (case x__AXES => k_is)
    (case x__E => exact ⟨_, _, _, _, by k_is⟩)
    (case x__A => exact ⟨_, _, _, _, _, _, by k_is, ⟨_, _, _, _, by k_is⟩, ⟨_, _, _, _, by k_is⟩, ⟨_, _, _, _, by k_is⟩, ⟨_, _, _, _, by k_is⟩⟩)
    (case k_InvalidReading => k_is)
    (case be_InvalidReading => k_is)
    (case ty_InvalidReading => k_is)
    (case ic_InvalidReading => k_is)
    (case x_InvalidReading => k_exc)
    (case k_InvalidRow => k_is)
    (case be_InvalidRow => k_is)
    (case ty_InvalidRow => k_is)
    (case ic_InvalidRow => k_is)
    (case x_InvalidRow => k_exc)
    (case k_InvalidOperation => k_is)
    (case be_InvalidOperation => k_is)
    (case ty_InvalidOperation => k_is)
    (case ic_InvalidOperation => k_is)
    (case x_InvalidOperation => k_exc)
    (case k_TooMany => k_is)
    (case be_TooMany => k_is)
    (case ty_TooMany => k_is)
    (case ic_TooMany => k_is)
    (case ol_TooMany => exact ⟨_, _, _, _, _, _, _, _, _, _, _, _, _, _, by k_is⟩)
    (case os_TooMany => k_is)
    (case ot_TooMany => k_is)
    (case nf_TooMany => k_is)
    (case ga_TooMany => k_is)
    (case gg_TooMany => k_is)
    (case hc_TooMany => k_is)
    (case sb_InvalidReading_InvalidReading => k_is)
    (case sb_InvalidReading_InvalidRow => k_is)
    (case sb_InvalidReading_InvalidOperation => k_is)
    (case sb_InvalidReading_TooMany => k_is)
    (case sb_InvalidRow_InvalidReading => k_is)
    (case sb_InvalidRow_InvalidRow => k_is)
    (case sb_InvalidRow_InvalidOperation => k_is)
    (case sb_InvalidRow_TooMany => k_is)
    (case sb_InvalidOperation_InvalidReading => k_is)
    (case sb_InvalidOperation_InvalidRow => k_is)
    (case sb_InvalidOperation_InvalidOperation => k_is)
    (case sb_InvalidOperation_TooMany => k_is)
    (case sb_TooMany_InvalidReading => k_is)
    (case sb_TooMany_InvalidRow => k_is)
    (case sb_TooMany_InvalidOperation => k_is)
    (case sb_TooMany_TooMany => k_is)

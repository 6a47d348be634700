import PyProof.Rows.All
import Wide.All
import OpenK.AllK
import Wide.FinOn
import PyProof.EqAt
import PyProof.EqKinds
import PyProof.TupleCall
import KE.GoesEnum
import HandS.Base
import HandS.Call
import HandS.List
import HandS.Comp
import HandS.Iter
import HandS.Evl
import HandS.Lambda
import HandS.Words
import HandS.Conv
import HandS.TupAny
import HandS.TupMul
import HandS.IsInst
import HandS.Wide
import HandS.RevRange
import HandS.SortInts
import PyProof.IsRules
import HandS.OwnEq
import HandS.More
import PyProof.InstNe
import HandS.FStr
import HandS.Text
import KE.KCallOwn
import HandS.Star
import HandS.TupSets
import HandS.Small
import HandS.StrMore
import HandS.TupLe
import HandS.ReplaceLit
import HandS.Codes
import HandS.Exc
import HandS.ExcOwn
import HandS.ExcInit
import HandS.ExcField
import HandS.TryMany
import HandS.WordsExc
import HandS.RaiseMore
import HandS.EndTab
import KE.KExcInit
import PyProof.ExcBaseAll.IndexError
import PyProof.ExcBaseAll.OverflowError
import PyProof.ExcBaseAll.ArithmeticError
import PyProof.ExcBaseAll.LookupError
import HandS.CallLocal
import HandS.EndBits
import KE.KNestM
import PyProof.StrBlock2
import PyProof.ReprRoads
import HandS.Gcd
import HandS.WideBits
import HandS.Flow
import HandS.TryOnly
import KE.KTupSum
import KE.DataAny
import HandS.Deep
import PySem.Challenge.RW_rampworks_k03_errors_of_rows
set_option Elab.async false
set_option linter.all false
set_option maxRecDepth 100000
set_option maxHeartbeats 4000000
namespace RW
open PySem PySem.Spec PyProof.Rows L2

/-- a sequence at a: a list (true), a tuple (false) -/
def Sq (K : PySem.W.Frag) (k : Bool) (H : Hp) (a : Addr) (xs : List V) : Prop := match k with
  | true => SqL K H a xs
  | false => SqT K H a xs
def itAt (k : Bool) (h : Heap) (it a : Addr) (i : Nat) : Prop := match k with
  | true => h.IsListIter it a i
  | false => h.IsTupleIter it a i
def seqAt (k : Bool) (h : Heap) (a : Addr) (its : Array Value) : Prop := match k with
  | true => h.IsList a its
  | false => h.IsTuple a its
def itObj (k : Bool) (a : Addr) : Obj := match k with
  | true => { cls := .type "list_iterator", data := .fields #[.ref a, .int 0 0] }
  | false => { cls := .type "tuple_iterator", data := .fields #[.ref a, .int 0 0] }
theorem itAt.there {k : Bool} {h : Heap} {it a : Addr} {i : Nat} (x : itAt k h it a i) : ∃ o, h.get? it = some o ∧ ∀ v, o.data ≠ .cell v := by
  cases k with
  | true => obtain ⟨o, e, c, d⟩ := x; exact ⟨o, e, fun v z => by rw [d] at z; cases z⟩
  | false => obtain ⟨o, e, c, d⟩ := x; exact ⟨o, e, fun v z => by rw [d] at z; cases z⟩
theorem itAt.at {k : Bool} {h h' : Heap} {it a : Addr} {i : Nat} (x : itAt k h it a i) (s : ∀ o, h.get? it = some o → h'.get? it = some o) : itAt k h' it a i := by
  cases k with
  | true => exact Heap.IsListIter.at x s
  | false => exact Heap.IsTupleIter.at x s
theorem draws_k {prog : Program} {w : World} {A : Around} (hh : A.handled = none) (k : Bool) (it t : Addr) (hne : t ≠ it) (items : Array Value) :
    Draws prog w A it [it, t] items.size (fun i v => items[i]? = some v) (fun i h => itAt k h it t i ∧ seqAt k h t items) := by
  cases k with
  | true => exact Draws.list hh it t hne items
  | false => exact Draws.tuple hh it t hne items
theorem begins_k (k : Bool) (t : Addr) (items : Array Value) : Begins (.ref t) (itObj k t) fun h => seqAt k h t items := by
  cases k with
  | true => exact begins_list t items
  | false => exact begins_tuple t items
theorem itAt_new {k : Bool} {h : Heap} {it a : Addr} (e : h.get? it = some (itObj k a)) : itAt k h it a 0 := by
  cases k with
  | true => exact ⟨_, e, rfl, rfl⟩
  | false => exact ⟨_, e, rfl, rfl⟩
section
variable {X : Cx} {pins : List (Addr × Obj)} {σ : L2.St} {H : Hp} {s : Shared} {k : Bool} {a : Addr} {xs ys : List V}
theorem inv_seq (I : Inv X pins σ H s) (h : Sq X.K k H a xs) : ∃ its : List Value, Vals xs its ∧ seqAt k s.heap a its.toArray := by
  cases k with
  | true =>
    obtain ⟨its, rv, p, _⟩ := I.list h
    exact ⟨its, rv, p.isList⟩
  | false =>
    obtain ⟨its, rv, p, _⟩ := I.tuple h
    exact ⟨its, rv, p⟩
theorem inv_inj (I : Inv X pins σ H s) (h : Sq X.K k H a xs) (h' : Sq X.K k H a ys) : xs = ys := by
  cases k with
  | true => exact I.list_inj h h'
  | false => exact I.tuple_inj h h'
theorem seqAt.lt {k : Bool} {h : Heap} {a : Addr} {its : Array Value} (x : seqAt k h a its) : a < h.objs.size := by
  cases k with
  | true => obtain ⟨o, e, _⟩ := x; exact Heap.lt_size e
  | false => obtain ⟨o, e, _⟩ := x; exact Heap.lt_size e
end

/-! ### a list or a tuple, walked -/
def ItS (K : PySem.W.Frag) (k : Bool) (a : Addr) : It := match k with
  | true => Itl K a
  | false => Itt K a
def iSeq (K : PySem.W.Frag) (tl : TE) : TI := fun σ H R => tl σ H fun x H1 => ∃ a k, x = .ref a ∧ (∃ xs, Sq K k H1 a xs) ∧ R (ItS K k a) H1
theorem pi_seq {X : Cx} {tg l : Expr} {tl : TE} (hl : PE X l tl) : PI X tg l (iSeq X.K tl) := by
  refine ⟨fun pins s σ H R I h => ?_⟩
  refine thn (hl.run pins s σ H _ I h) fun v s1 ⟨x, H1, I1, r1, q1⟩ => ?_
  obtain ⟨a, k, e, ⟨xs, hq⟩, q⟩ := q1
  subst e
  cases r1
  obtain ⟨its, rv, p⟩ := inv_seq I1 hq
  cases k with
  | true =>
    refine wpAny_pyIter_list p ?_
    refine ⟨s1.heap.objs.size, [s1.heap.objs.size], _, _, H1, rfl, I1.kept (t' := s1.toks) fun b o e => Heap.get?_push_of_some _ e, turn_list a _, ⟨_, Heap.get?_push_size _ rfl, rfl, rfl⟩, fun b hb => ?_, q⟩
    have e : b = s1.heap.objs.size := by simpa using hb
    subst e
    exact I1.fpOk (Nat.le_refl _) (I1.hok.fresh (Nat.le_refl _))
  | false =>
    refine wpAny_pyIter_tuple p ?_
    refine ⟨s1.heap.objs.size, [s1.heap.objs.size], _, _, H1, rfl, I1.kept (t' := s1.toks) fun b o e => Heap.get?_push_of_some _ e, turn_tuple a _, ⟨_, Heap.get?_push_size _ rfl, rfl, rfl⟩, fun b hb => ?_, q⟩
    have e : b = s1.heap.objs.size := by simpa using hb
    subst e
    exact I1.fpOk (Nat.le_refl _) (I1.hok.fresh (Nat.le_refl _))

/-! ### zip of two sequences -/
def ItzG (K : PySem.W.Frag) (k1 k2 : Bool) (a b : Addr) : It :=
  ⟨fun i H => ∃ (xs ys : List V) (x y : V), Sq K k1 H a xs ∧ Sq K k2 H b ys ∧ xs[i]? = some x ∧ ys[i]? = some y,
    fun i H v H' => ∃ T x y, v = .ref T ∧ H T = none ∧ H' = upd H T (.tup [x, y]) ∧ (∀ xs, Sq K k1 H a xs → xs[i]? = some x) ∧ ∀ ys, Sq K k2 H b ys → ys[i]? = some y,
    fun i H => ∃ xs ys : List V, Sq K k1 H a xs ∧ Sq K k2 H b ys ∧ i ≤ xs.length ∧ i ≤ ys.length ∧ (xs.length ≤ i ∨ ys.length ≤ i)⟩
theorem turn_zipG {P : Program} {w : World} {K : PySem.W.Frag} {elts : List Expr} {kk : Nat} {tpos : Pos} {k1 k2 : Bool} {a b z TI TO i1 i2 : Addr} (D : ZipSep2 z TI TO i1 i2 [i1, a] [i2, b]) (n1 : a ≠ i1) (n2 : b ≠ i2) :
    Turn P w K (.Tuple elts kk tpos) (ItzG K k1 k2 a b) [z, TI, TO, i1, i2] z (fun i h => IsZip h z TI TO .none ∧ IsTupOf2 h TI (.ref i1) (.ref i2) ∧ (∃ x y, IsTupOf2 h TO x y) ∧ itAt k1 h i1 a i ∧ itAt k2 h i2 b i) where
  mem := by simp
  obj := fun i h st c hc => by
    obtain ⟨hz, hTI, ⟨x, y, hTO⟩, h1, h2⟩ := st
    have e' : c = z ∨ c = TI ∨ c = TO ∨ c = i1 ∨ c = i2 := by simpa using hc
    rcases e' with q | q | q | q | q
    · rw [q]; exact ⟨_, hz, fun v q => nomatch q⟩
    · rw [q]; exact ⟨_, hTI, fun v q => nomatch q⟩
    · rw [q]; exact ⟨_, hTO, fun v q => nomatch q⟩
    · rw [q]; exact h1.there
    · rw [q]; exact h2.there
  keep := fun i h h' st k => by
    obtain ⟨hz, hTI, ⟨x, y, hTO⟩, h1, h2⟩ := st
    exact ⟨k z (by simp) _ hz, k TI (by simp) _ hTI, ⟨x, y, k TO (by simp) _ hTO⟩, h1.at fun o q => k i1 (by simp) o q, h2.at fun o q => k i2 (by simp) o q⟩
  item := by
    intro X hP hw hK hc i pins s σ H E I hf st hg
    subst hP hw hK
    obtain ⟨hz, hTI, ⟨x0, y0, hTO⟩, h1, h2⟩ := st
    obtain ⟨xs, ys, x, y, hqx, hqy, hx, hy⟩ := hg
    obtain ⟨its, rv, p⟩ := inv_seq I hqx
    obtain ⟨its2, rv2, p2⟩ := inv_seq I hqy
    obtain ⟨u, hu, ru⟩ := rv.get hx
    obtain ⟨u2, hu2, ru2⟩ := rv2.get hy
    have hzl : z < s.heap.objs.size := Heap.lt_size hz
    have hh : X.A.in1.handled = none := I.ok.hd hc
    have l1 : i < its.toArray.size := by
      have := (List.getElem?_eq_some_iff.mp hu).1
      simpa using this
    have l2 : i < its2.toArray.size := by
      have := (List.getElem?_eq_some_iff.mp hu2).1
      simpa using this
    refine wpAny_pyNext_zipD2_item D (draws_k hh k1 i1 a n1 its.toArray) (draws_k hh k2 i2 b n2 its2.toArray) hz hTI hTO ⟨h1, p⟩ ⟨h2, p2⟩ l1 l2 fun v1 v2 h' tk e1 e2 z' TO' h1' h2' hT hsz hk => ?_
    have e1' : v1 = u := by
      have q : its[i]? = some v1 := by simpa using e1
      rw [hu] at q
      exact (Option.some.inj q).symm
    have e2' : v2 = u2 := by
      have q : its2[i]? = some v2 := by simpa using e2
      rw [hu2] at q
      exact (Option.some.inj q).symm
    subst e1' e2'
    refine ⟨_, rfl, wpAny_letOwnedTupleGo_zip (s := { s with heap := h', toks := tk }) z' fun h'' z'' sb => ?_⟩
    have hT2 : h''.get? s.heap.objs.size = some { cls := .type "tuple", data := .seq #[v1, v2] } := (sb.2 _ (Nat.ne_of_gt hzl)).trans hT
    have new : ObjOk X.prog X.w (upd H s.heap.objs.size (.tup [x, y])) h'' s.heap.objs.size (.tup [x, y]) :=
      ⟨by show 2 ≤ sizeLine; decide, [v1, v2], .cons ru (.cons ru2 .nil), ⟨_, hT2, rfl, _, rfl⟩⟩
    have I1 : Inv X pins σ (upd H s.heap.objs.size (.tup [x, y])) { s with heap := h'', toks := tk } :=
      I.turnedNew (t' := tk) (ch := [z, TI, TO, i1, i2]) (fun c o hb q => (sb.2 c (fun q' => hb (by simp [q']))).trans (hk c o (fun q' => hb (by simp [q'])) (fun q' => hb (by simp [q'])) (fun q' => hb (by simp [q'])) (fun q' => hb (by simp [q'])) q)) hf (Nat.le_refl _) new
    refine ⟨.ref s.heap.objs.size, _, I1, rfl, ⟨_, x, y, rfl, I.hok.fresh (Nat.le_refl _), rfl, fun l hl => by rw [inv_inj I hl hqx]; exact hx, fun l hl => by rw [inv_inj I hl hqy]; exact hy⟩, ⟨z'', ?_, ⟨v1, v2, ?_⟩, ?_, ?_⟩, fun c hcm => ?_⟩
    · exact (sb.2 _ D.TIz).trans (hk _ _ D.TIz D.TITO D.TIi1 D.TIi2 hTI)
    · exact (sb.2 _ D.TOz).trans TO'
    · exact h1'.1.at fun o q => (sb.2 _ (Ne.symm D.zi1)).trans q
    · exact h2'.1.at fun o q => (sb.2 _ (Ne.symm D.zi2)).trans q
    · have hlt : c < s.heap.objs.size := by
        have e' : c = z ∨ c = TI ∨ c = TO ∨ c = i1 ∨ c = i2 := by simpa using hcm
        rcases e' with q | q | q | q | q
        · rw [q]; exact hzl
        · rw [q]; exact Heap.lt_size hTI
        · rw [q]; exact Heap.lt_size hTO
        · rw [q]; obtain ⟨_, e1, _⟩ := h1.there; exact Heap.lt_size e1
        · rw [q]; obtain ⟨_, e2, _⟩ := h2.there; exact Heap.lt_size e2
      rw [upd_ne (Nat.ne_of_lt hlt)]
      exact (hf c hcm).1
  done := by
    intro X hP hw hK hc i pins s σ H E I hf st hg
    subst hP hw hK
    obtain ⟨hz, hTI, ⟨x0, y0, hTO⟩, h1, h2⟩ := st
    obtain ⟨xs, ys, hqx, hqy, le1, le2, hend⟩ := hg
    obtain ⟨its, rv, p⟩ := inv_seq I hqx
    obtain ⟨its2, rv2, p2⟩ := inv_seq I hqy
    have l1 := rv.length
    have l2 := rv2.length
    have hh : X.A.in1.handled = none := I.ok.hd hc
    exact wpAny_pyNext_zipD2_end D (draws_k hh k1 i1 a n1 its.toArray) (draws_k hh k2 i2 b n2 its2.toArray) hz hTI hTO ⟨h1, p⟩ ⟨h2, p2⟩ (by simp; omega) (by simp; omega) (by simp; omega) fun h' tk hk => ⟨rfl, I.turnedL (t' := tk) (ch := [z, TI, TO, i1, i2]) (fun c o hb q =>
      hk c o (fun q' => hb (by simp [q'])) (fun q' => hb (by simp [q'])) (fun q' => hb (by simp [q'])) (fun q' => hb (by simp [q'])) q) hf⟩
  self := fun A i s Q E st h => wpAny_pyIter_zip st.1 h

def iZipG (K : PySem.W.Frag) (ta : TA) : TI := fun σ H R => ta σ H fun vs H1 => ∃ a b k1 k2 xs ys, vs = [.ref a, .ref b] ∧ Sq K k1 H1 a xs ∧ Sq K k2 H1 b ys ∧ R (ItzG K k1 k2 a b) H1
theorem pi_zipG {X : Cx} {e e2 : Expr} {ta : TA} {p pos tpos : Pos} {elts : List Expr} {kk : Nat} (hg : Gl X "zip") (hm : X.mg "zip" = none) (ha : PA X [e, e2] ta)
    (hs : starEach [e, e2] X.env = (false, eval e X.env) :: starEach [e2] X.env := by rfl) (hpl : (backTo pos (starEach [e2] X.env)).any (·.1) = false := by rfl) :
    PI X (.Tuple elts kk tpos) (.Call (.Name "zip" p) [e, e2] [] pos) (iZipG X.K ta) := by
  refine ⟨fun pins s σ H R I h => ?_⟩
  refine Call_ (ld_blt I hg hm PyProof.Rows.boot_zip (PyProof.Rows.callWith_type1 (thn (ha.run pos pins s σ H _ I h) fun us s1 ⟨vs, H1, I1, r1, q1⟩ => ?_) hs hpl))
  obtain ⟨a, b, k1, k2, xs, ys, ex, hqx, hqy, q⟩ := q1
  subst ex
  cases r1 with
  | cons r rr =>
    cases rr with
    | cons r' rr =>
      cases rr
      cases r
      cases r'
      have fresh5 : ∀ c, c ∈ [s1.heap.objs.size + 4, s1.heap.objs.size + 2, s1.heap.objs.size + 3, s1.heap.objs.size, s1.heap.objs.size + 1] → FpOk X pins H1 c := fun c hcm => by
        have e' : c = s1.heap.objs.size + 4 ∨ c = s1.heap.objs.size + 2 ∨ c = s1.heap.objs.size + 3 ∨ c = s1.heap.objs.size ∨ c = s1.heap.objs.size + 1 := by simpa using hcm
        have hle : s1.heap.objs.size ≤ c := by
          rcases e' with z | z | z | z | z
          · rw [z]; exact Nat.le_add_right _ _
          · rw [z]; exact Nat.le_add_right _ _
          · rw [z]; exact Nat.le_add_right _ _
          · rw [z]; exact Nat.le_refl _
          · rw [z]; exact Nat.le_add_right _ _
        exact I1.fpOk hle (I1.hok.fresh hle)
      obtain ⟨its, rv, p1⟩ := inv_seq I1 hqx
      obtain ⟨its2, rv2, p2⟩ := inv_seq I1 hqy
      have ha1 := p1.lt
      have ha2 := p2.lt
      refine zip_begins2 (begins_k k1 a its.toArray) (begins_k k2 b its2.toArray) p1 p2 fun h' hz hTI hTO h1 h2 hsz hk => wpAny_pyIter_zip hz ?_
      have I2 : Inv X pins σ H1 { s1 with heap := h' } := I1.kept (t' := s1.toks) hk
      have S : ZipSep2 (s1.heap.objs.size + 4) (s1.heap.objs.size + 2) (s1.heap.objs.size + 3) s1.heap.objs.size (s1.heap.objs.size + 1) [s1.heap.objs.size, a] [s1.heap.objs.size + 1, b] :=
        zip_sep2 (fp1 := [a]) (fp2 := [b]) (fun c hc => by rw [List.mem_singleton.mp hc]; exact ha1) (fun c hc => by rw [List.mem_singleton.mp hc]; exact ha2)
      exact ⟨s1.heap.objs.size + 4, [s1.heap.objs.size + 4, s1.heap.objs.size + 2, s1.heap.objs.size + 3, s1.heap.objs.size, s1.heap.objs.size + 1], _, _, H1, rfl, I2, turn_zipG S (Nat.ne_of_lt ha1) (Nat.ne_of_lt (Nat.lt_succ_of_lt ha2)), ⟨hz, hTI, ⟨_, _, hTO⟩, itAt_new h1, itAt_new h2⟩, fresh5, q⟩
end RW

set_option Elab.async false
set_option linter.all false
set_option maxRecDepth 100000
set_option maxHeartbeats 4000000
namespace RW
open PySem PySem.Spec PyProof.Rows L2
theorem meets_enumerate_new1 {v : Value} {o : Obj} {H : Heap → Prop} (B : Begins v o H) :
    Meets (Builtin.«enumerate.__new__» ⟨[.type "enumerate", v], []⟩) (fun _ R s => H s.heap ∧
      R (.ok (.ret (.ref (s.heap.push o).objs.size))) { s with heap := (s.heap.push o).push { cls := .type "enumerate", data := .fields #[.none, .bool false, .ref s.heap.objs.size, rawInt 0, .none, .none] } }) :=
  .of_wp fun prog w A R s h => by
    obtain ⟨hp, g, d, tk, os⟩ := s; obtain ⟨h1, h⟩ := h
    have hsub := sub_enumerate
    have q1 : ∀ {A' : Around} {E : Value → Shared → Prop} {Q : Value → Shared → Prop}, Q (.ref hp.objs.size) ⟨hp.push o, g, d, tk, os⟩ → wpAny (model prog w) A' (pyIter v) Q E ⟨hp, g, d, tk, os⟩ :=
      fun q => B.iter prog w _ _ ⟨hp, g, d, tk, os⟩ _ h1 q
    wp_walk using q1
    refine wpAny_stack_any fun st => wpAny_pure ?_
    split
    · rename_i c _ _ _ _ _
      cases (c == Value.type "enumerate")
      · wp_walk using q1
        exact ⟨_, rfl, h⟩
      · wp_walk using q1
        exact ⟨_, rfl, h⟩
    · wp_walk using q1
      exact ⟨_, rfl, h⟩
section
variable {prog : Program} {w : World} {A : Around} {E : Value → Shared → Prop} {s : Shared}
theorem enum_begins1 {v : Value} {o : Obj} {H : Heap → Prop} {Q : Value → Shared → Prop} (B : Begins v o H) (h1 : H s.heap)
    (h : ∀ h', IsEnum h' (s.heap.objs.size + 1) s.heap.objs.size 0 .none → h'.get? s.heap.objs.size = some o → h'.objs.size = s.heap.objs.size + 2 →
      (∀ b o, s.heap.get? b = some o → h'.get? b = some o) → Q (.ref (s.heap.objs.size + 1)) { s with heap := h' }) :
    wpAny (model prog w) A (call (.type "enumerate") [v]) Q E s := by
  refine callType_new F.called_enumerate (by decide) (F.typeCall_enumerate_1 _) (F.newCall_enumerate_1 _) (fun obj => F.args_object_init_2 obj _) F.entry_enumerate_new
    (meets_enumerate_new1 B) ⟨h1, ?_⟩
  have hz : (s.heap.push o).objs.size = s.heap.objs.size + 1 := Heap.size_push ..
  show _ ∧ _
  rw [hz]
  have he : IsEnum ((s.heap.push o).push { cls := .type "enumerate", data := .fields #[.none, .bool false, .ref s.heap.objs.size, rawInt 0, .none, .none] }) (s.heap.objs.size + 1) s.heap.objs.size 0 .none := by
    have := Heap.get?_push_size (s.heap.push o) (o := { cls := .type "enumerate", data := .fields #[.none, .bool false, .ref s.heap.objs.size, rawInt 0, .none, .none] }) rfl
    rw [hz] at this; exact this
  refine ⟨⟨_, he, rfl⟩, h _ he (Heap.get?_push_of_some _ (Heap.get?_push_size _ B.free)) (by rw [Heap.size_push, hz]) fun b o x => Heap.get?_push_of_some _ (Heap.get?_push_of_some _ x)⟩
end
def IteG (K : PySem.W.Frag) (k : Bool) (a : Addr) : It :=
  ⟨fun i H => ∃ (xs : List V) (x : V), Sq K k H a xs ∧ xs[i]? = some x, fun i H v H' => ∃ T x, v = .ref T ∧ H T = none ∧ H' = upd H T (.tup [.int (i : Nat), x]) ∧ ∀ xs, Sq K k H a xs → xs[i]? = some x, fun i H => ∃ xs : List V, Sq K k H a xs ∧ xs.length = i⟩
theorem turn_enumG {P : Program} {w : World} {K : PySem.W.Frag} {elts : List Expr} {kk : Nat} {tpos : Pos} {k : Bool} {a e it : Addr} (hne : e ≠ it) (hea : a ≠ e) (hia : a ≠ it) :
    Turn P w K (.Tuple elts kk tpos) (IteG K k a) [e, it] e (fun i h => (∃ old, IsEnum h e it ((i : Nat) : Int) old) ∧ itAt k h it a i) where
  mem := by simp
  obj := fun i h st b hb => by
    obtain ⟨⟨old, he⟩, hi⟩ := st
    have e' : b = e ∨ b = it := by simpa using hb
    rcases e' with z | z
    · rw [z]; exact ⟨_, he, fun v q => nomatch q⟩
    · rw [z]; exact hi.there
  keep := fun i h h' st k => let ⟨⟨old, he⟩, hi⟩ := st; ⟨⟨old, k e (by simp) _ he⟩, hi.at fun o q => k it (by simp) o q⟩
  item := by
    intro X hP hw hK hc i pins s σ H E I hf st hg
    subst hP hw hK
    obtain ⟨⟨old, he⟩, hit⟩ := st
    obtain ⟨xs, x, hq, hx⟩ := hg
    obtain ⟨its, rv, p⟩ := inv_seq I hq
    obtain ⟨u, hu, ru⟩ := rv.get hx
    have hel : e < s.heap.objs.size := Heap.lt_size he
    have hil : it < s.heap.objs.size := by obtain ⟨_, q, _⟩ := hit.there; exact Heap.lt_size q
    have hh : X.A.in1.handled = none := I.ok.hd hc
    have l1 : i < its.toArray.size := by
      have := (List.getElem?_eq_some_iff.mp hu).1
      simpa using this
    refine wpAny_pyNext_enum_itemC (draws_k hh k it a hia its.toArray) he ⟨hit, p⟩ l1 hne (by simp [hne, Ne.symm hea]) fun v1 h' tk e1 ho hst' hT hsz hk => ?_
    have e1' : v1 = u := by
      have q : its[i]? = some v1 := by simpa using e1
      rw [hu] at q
      exact (Option.some.inj q).symm
    subst e1'
    refine ⟨_, rfl, wpAny_letOwnedTupleGo_enum (s := { s with heap := h', toks := tk + 1 }) ho fun h'' he' sb => ?_⟩
    have hT2 : h''.get? s.heap.objs.size = some { cls := .type "tuple", data := .seq #[.int i tk, v1] } := (sb.2 _ (Nat.ne_of_gt hel)).trans hT
    have new : ObjOk X.prog X.w (upd H s.heap.objs.size (.tup [.int (i : Nat), x])) h'' s.heap.objs.size (.tup [.int (i : Nat), x]) :=
      ⟨by show 2 ≤ sizeLine; decide, [.int i tk, v1], .cons ⟨_, rfl⟩ (.cons ru .nil), ⟨_, hT2, rfl, _, rfl⟩⟩
    have I1 : Inv X pins σ (upd H s.heap.objs.size (.tup [.int (i : Nat), x])) { s with heap := h'', toks := tk + 1 } :=
      I.turnedNew (ch := [e, it]) (fun b ob hb q => (sb.2 b (fun z => hb (by simp [z]))).trans (hk b ob (fun z => hb (by simp [z])) (fun z => hb (by simp [z])) q)) hf (Nat.le_refl _) new
    refine ⟨.ref s.heap.objs.size, _, I1, rfl, ⟨_, x, rfl, I.hok.fresh (Nat.le_refl _), rfl, fun ys hy => by rw [inv_inj I hy hq]; exact hx⟩, ⟨⟨v1, ?_⟩, hst'.1.at fun o q => (sb.2 it (Ne.symm hne)).trans q⟩, fun b hb => ?_⟩
    · have e1 : ((i + 1 : Nat) : Int) = (i : Int) + 1 := by omega
      rw [e1]; exact he'
    · have hb' : b < s.heap.objs.size := by
        have e' : b = e ∨ b = it := by simpa using hb
        rcases e' with z | z
        · rw [z]; exact hel
        · rw [z]; exact hil
      rw [upd_ne (Nat.ne_of_lt hb')]
      exact (hf b hb).1
  done := by
    intro X hP hw hK hc i pins s σ H E I hf st hg
    subst hP hw hK
    obtain ⟨⟨old, he⟩, hit⟩ := st
    obtain ⟨xs, hq, hx⟩ := hg
    obtain ⟨its, rv, p⟩ := inv_seq I hq
    obtain ⟨f0, f1, f2, f3, f4, f5⟩ := hf it (by simp)
    have hh : X.A.in1.handled = none := I.ok.hd hc
    have hl := rv.length
    have hi : its.toArray.size = i := by simp; omega
    subst hi
    exact wpAny_pyNext_enum_endD (draws_k hh k it a hia its.toArray) he ⟨hit, p⟩ fun h' eb => ⟨rfl, I.turned (t' := s.toks) (fun b o hb q => eb b o hb q) f0 f1 f3 f4 f5⟩
  self := fun A i s Q E st h => let ⟨⟨_, he⟩, _⟩ := st; wpAny_pyIter_enum he h
def iEnumG (K : PySem.W.Frag) (ta : TA) : TI := fun σ H R => ta σ H fun vs H1 => ∃ a k xs, vs = [.ref a] ∧ Sq K k H1 a xs ∧ R (IteG K k a) H1
theorem pi_enumG {X : Cx} {e : Expr} {ta : TA} {p pos tpos : Pos} {elts : List Expr} {kk : Nat} (hg : Gl X "enumerate") (hm : X.mg "enumerate" = none) (ha : PA X [e] ta) (hs : starEach [e] X.env = [(false, eval e X.env)] := by rfl) :
    PI X (.Tuple elts kk tpos) (.Call (.Name "enumerate" p) [e] [] pos) (iEnumG X.K ta) := by
  refine ⟨fun pins s σ H R I h => ?_⟩
  refine Call_ (ld_blt I hg hm boot_enumerate (PyProof.Rows.callWith_type1 (thn (ha.run pos pins s σ H _ I h) fun us s1 ⟨vs, H1, I1, r1, q1⟩ => ?_) hs rfl))
  obtain ⟨a, k, xs, ex, hq, q⟩ := q1
  subst ex
  cases r1 with
  | cons r rr =>
    cases rr
    cases r
    obtain ⟨its, rv, p'⟩ := inv_seq I1 hq
    have hal := p'.lt
    refine enum_begins1 (begins_k k a its.toArray) p' fun h' he hit hsz hk => wpAny_pyIter_enum he ?_
    have I2 : Inv X pins σ H1 { s1 with heap := h' } := I1.kept (t' := s1.toks) hk
    refine ⟨s1.heap.objs.size + 1, [s1.heap.objs.size + 1, s1.heap.objs.size], _, _, H1, rfl, I2, turn_enumG (e := s1.heap.objs.size + 1) (it := s1.heap.objs.size) (Nat.succ_ne_self _) (Nat.ne_of_lt (Nat.lt_succ_of_lt hal)) (Nat.ne_of_lt hal), ⟨⟨.none, he⟩, itAt_new hit⟩, fun b hb => ?_, q⟩
    have e' : b = s1.heap.objs.size + 1 ∨ b = s1.heap.objs.size := by simpa using hb
    have hle : s1.heap.objs.size ≤ b := by
      rcases e' with z | z
      · rw [z]; exact Nat.le_add_right _ _
      · rw [z]; exact Nat.le_refl _
    exact I1.fpOk hle (I1.hok.fresh hle)
end RW

set_option Elab.async false
set_option linter.all false
set_option maxRecDepth 100000
set_option maxHeartbeats 4000000
namespace RW
open PySem PySem.Spec PyProof.Rows L2
open Evl (Ex)

/-! ### data: what a value is, whatever its address -/
inductive Dat where
  | non | bl (b : Bool) | int (i : Int) | str (s : Str) | ty (n : String)
  | tup (xs : List Dat) | lst (xs : List Dat) | scr (ns : List Int)
  | ins (C : Addr) (fs : List (Str × Dat))
  | adr (a : Addr)
  | dic (ks : List (List Int))
  | cel (j : Nat)
  | tab (P : Addr) (q : Str)
  | dd
  | lsa (p : Addr) (ds : List Dat)
  | dkd (kvs : List (L2.Key × Dat))
  | dtd (kvs : List (List Int × Dat))
/-- where it stands, if that is told -/
def adrOf : Dat → Option Addr
  | .tab P _ => some P
  | .lsa p _ => some p
  | _ => none
mutual
inductive Rep (K : PySem.W.Frag) (B : Hp) : V → Dat → Prop
  | non : Rep K B .non .non
  | bl (b : Bool) : Rep K B (.bl b) (.bl b)
  | int (i : Int) : Rep K B (.int i) (.int i)
  | str (s : Str) : Rep K B (.str s) (.str s)
  | ty (n : String) : Rep K B (.ty n) (.ty n)
  | tup {a : Addr} {xs : List V} {ds : List Dat} : SqT K B a xs → Reps K B xs ds → Rep K B (.ref a) (.tup ds)
  | lst {a : Addr} {xs : List V} {ds : List Dat} : B a = some (.lst xs) → Reps K B xs ds → Rep K B (.ref a) (.lst ds)
  | scr {a : Addr} {ns : List Int} : SqL K B a (ns.map V.int) → Rep K B (.ref a) (.scr ns)
  | ins {a C dx : Addr} {vs : List (Str × V)} {fs : List (Str × Dat)} : B a = some (.ins C dx vs) → RepF K B vs fs → Rep K B (.ref a) (.ins C fs)
  | adr (a : Addr) : Rep K B (.ref a) (.adr a)
  | dd {a : Addr} : B a = some (.dT []) → Rep K B (.ref a) .dd
inductive Reps (K : PySem.W.Frag) (B : Hp) : List V → List Dat → Prop
  | nil : Reps K B [] []
  | cons {v : V} {d : Dat} {vs : List V} {ds : List Dat} : Rep K B v d → Reps K B vs ds → Reps K B (v :: vs) (d :: ds)
inductive RepF (K : PySem.W.Frag) (B : Hp) : List (Str × V) → List (Str × Dat) → Prop
  | nil : RepF K B [] []
  | cons {f : Str} {v : V} {d : Dat} {vs : List (Str × V)} {ds : List (Str × Dat)} : Rep K B v d → RepF K B vs ds → RepF K B ((f, v) :: vs) ((f, d) :: ds)
  | cel {f : Str} {v : V} {j : Nat} {vs : List (Str × V)} {ds : List (Str × Dat)} : RepF K B vs ds → RepF K B ((f, v) :: vs) ((f, .cel j) :: ds)
end
section
variable {K : PySem.W.Frag} {B B' : Hp}
mutual
theorem Rep.mono (e : Ex B B') : ∀ {v : V} {d : Dat}, Rep K B v d → Rep K B' v d
  | _, _, .non => .non
  | _, _, .bl b => .bl b
  | _, _, .int i => .int i
  | _, _, .str s => .str s
  | _, _, .ty n => .ty n
  | _, _, .tup h r => .tup (Evl.ex_t e h) (Reps.mono e r)
  | _, _, .lst h r => .lst (e _ _ h) (Reps.mono e r)
  | _, _, .scr h => .scr (Evl.ex_l e h)
  | _, _, .ins h r => .ins (e _ _ h) (RepF.mono e r)
  | _, _, .adr a => .adr a
  | _, _, .dd h => .dd (e _ _ h)
theorem Reps.mono (e : Ex B B') : ∀ {v : List V} {d : List Dat}, Reps K B v d → Reps K B' v d
  | _, _, .nil => .nil
  | _, _, .cons h r => .cons (Rep.mono e h) (Reps.mono e r)
theorem RepF.mono (e : Ex B B') : ∀ {v : List (Str × V)} {d : List (Str × Dat)}, RepF K B v d → RepF K B' v d
  | _, _, .nil => .nil
  | _, _, .cons h r => .cons (Rep.mono e h) (RepF.mono e r)
  | _, _, .cel r => .cel (RepF.mono e r)
end
theorem Reps.length : ∀ {vs : List V} {ds : List Dat}, Reps K B vs ds → vs.length = ds.length
  | _, _, .nil => rfl
  | _, _, .cons _ r => by rw [List.length_cons, List.length_cons, Reps.length r]
theorem Reps.get : ∀ {vs : List V} {ds : List Dat} {i : Nat} {d : Dat}, Reps K B vs ds → ds[i]? = some d → ∃ v, vs[i]? = some v ∧ Rep K B v d
  | _, _, _, _, .nil, e => by simp at e
  | _, _, 0, _, .cons h _, e => by simp at e; subst e; exact ⟨_, rfl, h⟩
  | _, _, i + 1, d, .cons _ r, e => by
    obtain ⟨v, h1, h2⟩ := Reps.get (i := i) (d := d) r (by simpa using e)
    exact ⟨v, by simpa using h1, h2⟩
theorem Reps.get' : ∀ {vs : List V} {ds : List Dat} {i : Nat} {v : V}, Reps K B vs ds → vs[i]? = some v → ∃ d, ds[i]? = some d ∧ Rep K B v d
  | _, _, _, _, .nil, e => by simp at e
  | _, _, 0, _, .cons h _, e => by simp at e; subst e; exact ⟨_, rfl, h⟩
  | _, _, i + 1, v, .cons _ r, e => by
    obtain ⟨d, h1, h2⟩ := Reps.get' (i := i) (v := v) r (by simpa using e)
    exact ⟨d, by simpa using h1, h2⟩
theorem Reps.append : ∀ {vs ws : List V} {ds es : List Dat}, Reps K B vs ds → Reps K B ws es → Reps K B (vs ++ ws) (ds ++ es)
  | _, _, _, _, .nil, h => h
  | _, _, _, _, .cons h r, q => .cons h (Reps.append r q)
theorem Reps.take : ∀ {vs : List V} {ds : List Dat} (n : Nat), Reps K B vs ds → Reps K B (vs.take n) (ds.take n)
  | _, _, 0, _ => .nil
  | _, _, _ + 1, .nil => .nil
  | _, _, n + 1, .cons h r => .cons h (Reps.take n r)
theorem Reps.drop : ∀ {vs : List V} {ds : List Dat} (n : Nat), Reps K B vs ds → Reps K B (vs.drop n) (ds.drop n)
  | _, _, 0, r => r
  | _, _, _ + 1, .nil => .nil
  | _, _, n + 1, .cons _ r => Reps.drop n r
theorem Reps.set : ∀ {vs : List V} {ds : List Dat} {v : V} {d : Dat} (n : Nat), Rep K B v d → Reps K B vs ds → Reps K B (vs.set n v) (ds.set n d)
  | _, _, _, _, _, _, .nil => .nil
  | _, _, _, _, 0, h, .cons _ r => .cons h r
  | _, _, _, _, n + 1, h, .cons q r => .cons q (Reps.set n h r)
theorem Reps.ints : ∀ {vs : List V} {ns : List Int}, Reps K B vs (ns.map Dat.int) → vs = ns.map V.int
  | _, [], .nil => rfl
  | _, n :: ns, .cons h r => by
    cases h
    rw [List.map_cons, Reps.ints r]
theorem Reps.bls : ∀ {vs : List V} {ns : List Bool}, Reps K B vs (ns.map Dat.bl) → vs = ns.map V.bl
  | _, [], .nil => rfl
  | _, n :: ns, .cons h r => by
    cases h
    rw [List.map_cons, Reps.bls r]
theorem RepF.get : ∀ {vs : List (Str × V)} {fs : List (Str × Dat)} {f : Str} {d : Dat}, RepF K B vs fs → fs.lookup f = some d → (∀ j, d ≠ .cel j) → ∃ v, vs.lookup f = some v ∧ Rep K B v d
  | _, _, _, _, .nil, e, _ => by cases e
  | _, _, f, d, .cons (f := g) (vs := vs) (ds := ds) h r, e, hd => by
    by_cases q : (f == g) = true
    · simp only [List.lookup, q] at e ⊢
      cases e
      exact ⟨_, rfl, h⟩
    · have q' : (f == g) = false := by simpa using q
      simp only [List.lookup, q'] at e ⊢
      exact RepF.get r e hd
  | _, _, f, d, .cel (f := g) (j := j) r, e, hd => by
    by_cases q : (f == g) = true
    · simp only [List.lookup, q] at e
      cases e
      exact absurd rfl (hd j)
    · have q' : (f == g) = false := by simpa using q
      simp only [List.lookup, q'] at e ⊢
      exact RepF.get r e hd
end

/-! ### what a slot or an argument is: data, or a list that is changed (by its number) -/
inductive Sl where
  | d (x : Dat)
  | c (k : Nat)
def RepS (K : PySem.W.Frag) (B : Hp) (as : List Addr) (v : V) : Sl → Prop
  | .d x => Rep K B v x
  | .c k => ∃ a, as[k]? = some a ∧ v = .ref a
inductive RepSs (K : PySem.W.Frag) (B : Hp) (as : List Addr) : List V → List Sl → Prop
  | nil : RepSs K B as [] []
  | cons {v : V} {s : Sl} {vs : List V} {ss : List Sl} : RepS K B as v s → RepSs K B as vs ss → RepSs K B as (v :: vs) (s :: ss)
abbrev Env1 := List (Option Sl)
def EnvR (K : PySem.W.Frag) (B : Hp) (as : List Addr) (σ : L2.St) (env : Env1) : Prop :=
  σ.length = env.length ∧ ∀ (i : Nat) (s : Sl), env[i]? = some (some s) → ∃ v, σ[i]? = some (some v) ∧ RepS K B as v s
/-- what stands at a changed thing -/
def CellO (K : PySem.W.Frag) (B : Hp) : HO → Dat → Prop
  | .lst vs, .lst ds => Reps K B vs ds
  | .lst vs, .lsa _ ds => Reps K B vs ds
  | .ins C _ vs, .ins C' fs => C = C' ∧ RepF K B vs fs
  | .dT kvs, .dic ks => kvs.map (·.1) = ks.map fun k => k.map Sum.inl
  | .dK kvs, .dkd ks => kvs.map (·.1) = ks.map (·.1) ∧ Reps K B (kvs.map (·.2)) (ks.map (·.2))
  | .dT kvs, .dtd ks => kvs.map (·.1) = (ks.map fun k => k.1.map Sum.inl) ∧ Reps K B (kvs.map (·.2)) (ks.map (·.2))
  | .tbl ps, .tab _ q => TriplesOk ps.toList ∧ ∀ (pos : Pos) (cv : Value), codeAmong pos ps.toList = some cv → ∃ c, cv = .ref c ∧ B c = some (LamX.CodeO c q)
  | _, _ => False
def CellAt (K : PySem.W.Frag) (B H : Hp) (a : Addr) (s : Dat) : Prop := ∃ o, H a = some o ∧ CellO K B o s
theorem CellO.mono {K : PySem.W.Frag} {B B' : Hp} {o : HO} {s : Dat} (e : Ex B B') (h : CellO K B o s) : CellO K B' o s := by
  unfold CellO at h ⊢
  split at h <;> first
    | exact h.elim
    | exact Reps.mono e h
    | exact ⟨h.1, RepF.mono e h.2⟩
    | exact ⟨h.1, Reps.mono e h.2⟩
    | exact ⟨h.1, fun pos cv hc => let ⟨c, h1, h2⟩ := h.2 pos cv hc; ⟨c, h1, e _ _ h2⟩⟩
    | exact h
theorem CellAt.lst {K : PySem.W.Frag} {B H : Hp} {a : Addr} {ds : List Dat} (h : CellAt K B H a (.lst ds)) : ∃ vs, H a = some (.lst vs) ∧ Reps K B vs ds := by
  obtain ⟨o, h1, h2⟩ := h
  cases o <;> first
    | exact h2.elim
    | exact ⟨_, h1, h2⟩
theorem CellAt.ins {K : PySem.W.Frag} {B H : Hp} {a C : Addr} {fs : List (Str × Dat)} (h : CellAt K B H a (.ins C fs)) : ∃ dx vs, H a = some (.ins C dx vs) ∧ RepF K B vs fs := by
  obtain ⟨o, h1, h2⟩ := h
  cases o <;> first
    | exact h2.elim
    | (obtain ⟨rfl, h2⟩ := h2; exact ⟨_, _, h1, h2⟩)
theorem CellAt.dic {K : PySem.W.Frag} {B H : Hp} {a : Addr} {ks : List (List Int)} (h : CellAt K B H a (.dic ks)) : ∃ kvs, H a = some (.dT kvs) ∧ kvs.map (·.1) = ks.map fun k => k.map Sum.inl := by
  obtain ⟨o, h1, h2⟩ := h
  cases o <;> first
    | exact h2.elim
    | exact ⟨_, h1, h2⟩
theorem CellAt.lsa {K : PySem.W.Frag} {B H : Hp} {a p : Addr} {ds : List Dat} (h : CellAt K B H a (.lsa p ds)) : ∃ vs, H a = some (.lst vs) ∧ Reps K B vs ds := by
  obtain ⟨o, h1, h2⟩ := h
  cases o <;> first
    | exact h2.elim
    | exact ⟨_, h1, h2⟩
theorem CellAt.ofL {K : PySem.W.Frag} {B H : Hp} {a : Addr} {vs : List V} {ds : List Dat} (h : H a = some (.lst vs)) (r : Reps K B vs ds) : CellAt K B H a (.lst ds) := ⟨_, h, r⟩
theorem CellAt.ofI {K : PySem.W.Frag} {B H : Hp} {a C dx : Addr} {vs : List (Str × V)} {fs : List (Str × Dat)} (h : H a = some (.ins C dx vs)) (r : RepF K B vs fs) : CellAt K B H a (.ins C fs) := ⟨_, h, rfl, r⟩
/-- fields that tell of changed things ahead of this one -/
def LkO (as : List Addr) (k : Nat) (o : HO) (s : Dat) : Prop := ∀ C fs f j, s = .ins C fs → fs.lookup f = some (.cel j) → j < k → ∃ b dx vs, as[j]? = some b ∧ o = .ins C dx vs ∧ vs.lookup f = some (.ref b)
structure Ok (K : PySem.W.Frag) (B H : Hp) (as : List Addr) (S : List Dat) : Prop where
  ex : Ex B H
  len : as.length = S.length
  cells : ∀ (k : Nat) (a : Addr) (s : Dat), as[k]? = some a → S[k]? = some s → B a = none ∧ CellAt K B H a s
  nd : as.Nodup
  lk : ∀ (k : Nat) (a : Addr) (s : Dat) (o : HO), as[k]? = some a → S[k]? = some s → H a = some o → LkO as k o s
  ntb : ∀ (a : Addr) (ps : Array Value), B a ≠ some (.tbl ps)
  tb : ∀ (k : Nat) (d : Dat) (P : Addr), S[k]? = some d → adrOf d = some P → as[k]? = some P
/-- what never changes: tuples, codes of lambdas -/
def Fixd (o : HO) : Prop := (∃ xs, o = .tup xs) ∨ ∃ a q, o = LamX.CodeO a q
theorem Fixd.lst {xs : List V} (h : Fixd (.lst xs)) : False := by
  rcases h with ⟨_, h⟩ | ⟨_, _, h⟩
  · cases h
  · unfold LamX.CodeO at h; cases h
theorem Fixd.ins {C dx : Addr} {xs : List (Str × V)} (h : Fixd (.ins C dx xs)) : False := by
  rcases h with ⟨_, h⟩ | ⟨_, _, h⟩
  · cases h
  · unfold LamX.CodeO at h; cases h
theorem Fixd.dT {xs : List (List L2.Key × V)} (h : Fixd (.dT xs)) : False := by
  rcases h with ⟨_, h⟩ | ⟨_, _, h⟩
  · cases h
  · unfold LamX.CodeO at h; cases h
theorem Fixd.tbl {xs : Array Value} (h : Fixd (.tbl xs)) : False := by
  rcases h with ⟨_, h⟩ | ⟨_, _, h⟩
  · cases h
  · unfold LamX.CodeO at h; cases h
def Nn (H : Hp) (a : Addr) : Prop := ∀ o, H a = some o → ∃ ps, o = .tbl ps
theorem Nn.of {H : Hp} {a : Addr} (h : H a = none) : Nn H a := fun o q => by rw [h] at q; cases q
theorem Nn.no {H : Hp} {a : Addr} {o : HO} (h : Nn H a) (q : H a = some o) (nt : ∀ ps, o ≠ .tbl ps) : False := by
  obtain ⟨ps, e⟩ := h o q
  exact nt ps e
/-- p is new: nothing of what was known or changed -/
def Fresh (H : Hp) (as : List Addr) (p : Addr) : Prop := p ∉ as ∧ Nn H p
structure Evo (B H : Hp) (as : List Addr) (B' H' : Hp) : Prop where
  ex : Ex B B'
  fr : ∀ a o, a ∉ as → H a = some o → (∀ ps, o ≠ .tbl ps) → H' a = some o
  gr : ∀ a o, H a = some o → (∀ ps, o ≠ .tbl ps) → B' a = B a ∨ ∃ o', Fixd o' ∧ H' a = some o'
  tp : ∀ a o, Fixd o → H a = some o → H' a = some o
  pr : ∀ a o, H a = some o → (∀ ps, o ≠ .tbl ps) → ∃ o', H' a = some o' ∧ ∀ ps, o' ≠ .tbl ps
section
variable {K : PySem.W.Frag} {B B' B1 B2 H H' H1 H2 : Hp} {as as' : List Addr} {S S' : List Dat} {σ : L2.St} {env : Env1} {v : V} {s : Sl}
theorem RepS.mono (e : Ex B B') (h : RepS K B as v s) : RepS K B' as v s := by
  cases s with
  | d x => exact Rep.mono e h
  | c k => exact h
theorem RepS.grow {as1 : List Addr} (h : RepS K B as v s) : RepS K B (as ++ as1) v s := by
  cases s with
  | d x => exact h
  | c k =>
    obtain ⟨a, q, e⟩ := h
    exact ⟨a, by rw [List.getElem?_append_left (List.getElem?_eq_some_iff.mp q).1]; exact q, e⟩
theorem RepSs.mono (e : Ex B B') : ∀ {vs : List V} {ss : List Sl}, RepSs K B as vs ss → RepSs K B' as vs ss
  | _, _, .nil => .nil
  | _, _, .cons h r => .cons (h.mono e) (RepSs.mono e r)
theorem RepSs.append : ∀ {vs ws : List V} {ss ts : List Sl}, RepSs K B as vs ss → RepSs K B as ws ts → RepSs K B as (vs ++ ws) (ss ++ ts)
  | _, _, _, _, .nil, h => h
  | _, _, _, _, .cons h r, q => .cons h (RepSs.append r q)
theorem RepSs.length : ∀ {vs : List V} {ss : List Sl}, RepSs K B as vs ss → vs.length = ss.length
  | _, _, .nil => rfl
  | _, _, .cons _ r => by rw [List.length_cons, List.length_cons, RepSs.length r]
theorem RepSs.get : ∀ {vs : List V} {ss : List Sl} {i : Nat} {s : Sl}, RepSs K B as vs ss → ss[i]? = some s → ∃ v, vs[i]? = some v ∧ RepS K B as v s
  | _, _, _, _, .nil, e => by simp at e
  | _, _, 0, _, .cons h _, e => by simp at e; subst e; exact ⟨_, rfl, h⟩
  | _, _, i + 1, s, .cons _ r, e => by
    obtain ⟨v, h1, h2⟩ := RepSs.get (i := i) (s := s) r (by simpa using e)
    exact ⟨v, by simpa using h1, h2⟩
theorem RepSs.ds : ∀ {vs : List V} {ds : List Dat}, RepSs K B as vs (ds.map Sl.d) → Reps K B vs ds
  | _, [], .nil => .nil
  | _, d :: ds, .cons h r => .cons h (RepSs.ds r)
theorem EnvR.mono (e : Ex B B') (h : EnvR K B as σ env) : EnvR K B' as σ env :=
  ⟨h.1, fun i s q => by obtain ⟨v, q1, q2⟩ := h.2 i s q; exact ⟨v, q1, q2.mono e⟩⟩
theorem EnvR.grow {as1 : List Addr} (h : EnvR K B as σ env) : EnvR K B (as ++ as1) σ env :=
  ⟨h.1, fun i s q => by obtain ⟨v, q1, q2⟩ := h.2 i s q; exact ⟨v, q1, q2.grow⟩⟩
theorem EnvR.set (i : Nat) (h : EnvR K B as σ env) (hv : RepS K B as v s) : EnvR K B as (σ.set i (some v)) (env.set i (some s)) := by
  refine ⟨by rw [List.length_set, List.length_set, h.1], fun j t q => ?_⟩
  by_cases e : i = j
  · subst e
    have hi : i < env.length := by
      have := (List.getElem?_eq_some_iff.mp q).1
      rw [List.length_set] at this
      exact this
    rw [List.getElem?_set_self hi] at q
    cases q
    exact ⟨v, by rw [List.getElem?_set_self (by rw [h.1]; exact hi)], hv⟩
  · rw [List.getElem?_set_ne e] at q
    obtain ⟨w, q1, q2⟩ := h.2 j t q
    exact ⟨w, by rw [List.getElem?_set_ne e]; exact q1, q2⟩
theorem EnvR.unset (i : Nat) (h : EnvR K B as σ env) : EnvR K B as (σ.set i none) (env.set i none) := by
  refine ⟨by rw [List.length_set, List.length_set, h.1], fun j t q => ?_⟩
  by_cases e : i = j
  · subst e
    have hi : i < env.length := by
      have := (List.getElem?_eq_some_iff.mp q).1
      rw [List.length_set] at this
      exact this
    rw [List.getElem?_set_self hi] at q
    cases q
  · rw [List.getElem?_set_ne e] at q
    obtain ⟨w, q1, q2⟩ := h.2 j t q
    exact ⟨w, by rw [List.getElem?_set_ne e]; exact q1, q2⟩
theorem EnvR.forget (i : Nat) (x : Option V) (h : EnvR K B as σ env) : EnvR K B as (σ.set i x) (env.set i none) := by
  refine ⟨by rw [List.length_set, List.length_set, h.1], fun j t q => ?_⟩
  by_cases e : i = j
  · subst e
    have hi : i < env.length := by
      have := (List.getElem?_eq_some_iff.mp q).1
      rw [List.length_set] at this
      exact this
    rw [List.getElem?_set_self hi] at q
    cases q
  · rw [List.getElem?_set_ne e] at q
    obtain ⟨w, q1, q2⟩ := h.2 j t q
    exact ⟨w, by rw [List.getElem?_set_ne e]; exact q1, q2⟩
theorem EnvR.start {N : List Str} {vs : List V} {ss : List Sl} (h : RepSs K B as vs ss) : EnvR K B as (start N vs) (ss.map some ++ List.replicate (N.length - ss.length) none) := by
  unfold L2.start
  refine ⟨by rw [List.length_append, List.length_append, List.length_map, List.length_map, List.length_replicate, List.length_replicate, h.length], fun i s q => ?_⟩
  by_cases hi : i < ss.length
  · rw [List.getElem?_append_left (by simpa using hi), List.getElem?_map] at q
    cases e : ss[i]? with
    | none => rw [e] at q; cases q
    | some t =>
      rw [e] at q
      cases q
      obtain ⟨v, q1, q2⟩ := h.get e
      refine ⟨v, ?_, q2⟩
      rw [List.getElem?_append_left (by rw [List.length_map, h.length]; exact hi), List.getElem?_map, q1]
      rfl
  · rw [List.getElem?_append_right (by simpa using hi), List.getElem?_replicate] at q
    split at q <;> cases q
def wipeE (env : Env1) : List Nat → Env1
  | [] => env
  | v :: vs => (wipeE env vs).set v none
theorem EnvR.wipe (h : EnvR K B as σ env) : ∀ vs : List Nat, EnvR K B as (L2.wipe σ vs) (wipeE env vs)
  | [] => h
  | v :: vs => (EnvR.wipe h vs).unset v
theorem Evo.refl : Evo B H as B H := ⟨Evl.Ex.refl B, fun _ _ _ h _ => h, fun _ _ _ _ => .inl rfl, fun _ _ _ h => h, fun _ o h nt => ⟨o, h, nt⟩⟩
theorem Evo.trans (a : Evo B H as B1 H1) (b : Evo B1 H1 as B2 H2) : Evo B H as B2 H2 :=
  ⟨a.ex.trans b.ex, fun x o n h nt => b.fr x o n (a.fr x o n h nt) nt, fun x o h nt => let ⟨o1, h1, n1⟩ := a.pr x o h nt; (b.gr x o1 h1 n1).elim (fun e => (a.gr x o h nt).elim (fun e2 => .inl (e.trans e2)) fun ⟨o, fo, h⟩ => .inr ⟨o, fo, b.tp x o fo h⟩) .inr, fun x o fo h => b.tp x o fo (a.tp x o fo h), fun x o h nt => let ⟨o1, h1, n1⟩ := a.pr x o h nt; b.pr x o1 h1 n1⟩
/-- a new object, known from then on -/
theorem Ok.new {p : Addr} {o : HO} (c : Ok K B H as S) (hp : H p = none) (ho : ∀ ps, o ≠ .tbl ps := by exact fun _ z => nomatch z) : Ok K (upd B p o) (upd H p o) as S where
  ex := fun a u e => by
    by_cases q : a = p
    · subst q; rw [upd_same] at e ⊢; exact e
    · rw [upd_ne q] at e ⊢; exact c.ex a u e
  len := c.len
  cells := fun k a s h1 h2 => by
    obtain ⟨q1, q2⟩ := c.cells k a s h1 h2
    have hB : Ex B (upd B p o) := Evl.Ex.new (by
      cases e : B p with
      | none => rfl
      | some u => rw [c.ex p u e] at hp; cases hp)
    have ne : a ≠ p := by
      intro z
      subst z
      obtain ⟨o, q3, _⟩ := q2; rw [hp] at q3; cases q3
    rw [upd_ne ne]
    refine ⟨q1, ?_⟩
    obtain ⟨o, q3, q4⟩ := q2
    exact ⟨o, by rw [upd_ne ne]; exact q3, q4.mono hB⟩
  nd := c.nd
  lk := fun k a s o h1 h2 h3 => by
    have ne : a ≠ p := by
      rintro rfl
      obtain ⟨_, _, q3, _⟩ := c.cells k a s h1 h2
      rw [hp] at q3; cases q3
    rw [upd_ne ne] at h3
    exact c.lk k a s o h1 h2 h3
  tb := c.tb
  ntb := fun a ps e => by
    by_cases q : a = p
    · subst q; rw [upd_same] at e; exact ho ps (Option.some.inj e)
    · rw [upd_ne q] at e; exact c.ntb a ps e
theorem Ok.Bnone {p : Addr} (c : Ok K B H as S) (hp : H p = none) : B p = none := by
  cases e : B p with
  | none => rfl
  | some u => rw [c.ex p u e] at hp; cases hp
theorem Evo.new {p : Addr} {o : HO} (c : Ok K B H as S) (hp : H p = none) : Evo B H as (upd B p o) (upd H p o) :=
  ⟨Evl.Ex.new (c.Bnone hp), fun a u _ h _ => by rw [upd_ne (ne_of_none h hp)]; exact h, fun a o h _ => .inl (upd_ne (ne_of_none h hp)), fun a xs _ h => by rw [upd_ne (ne_of_none h hp)]; exact h, fun a o h nt => ⟨o, by rw [upd_ne (ne_of_none h hp)]; exact h, nt⟩⟩
end
end RW

set_option Elab.async false
set_option linter.all false
set_option maxRecDepth 100000
set_option maxHeartbeats 4000000
namespace RW
open PySem PySem.Spec PyProof.Rows L2
open Evl (Ex)

/-! ### what an expression gives -/
def Ev (K : PySem.W.Frag) (te : TE) (env : Env1) (S : List Dat) (r : Sl) (S' : List Dat) : Prop :=
  ∀ B H as σ, Ok K B H as S → EnvR K B as σ env → ∀ Q : VK, (∀ v B' H', Ok K B' H' as S' → Evo B H as B' H' → RepS K B' as v r → Q v H') → te σ H Q
/-- a new list that nothing else knows -/
def EvN (K : PySem.W.Frag) (te : TE) (env : Env1) (S : List Dat) (ds : List Dat) (S' : List Dat) : Prop :=
  ∀ B H as σ, Ok K B H as S → EnvR K B as σ env → ∀ Q : VK, (∀ p B' H' vs, Ok K B' H' as S' → Evo B H as B' H' → Fresh H as p → B' p = none → H' p = some (.lst vs) → Reps K B' vs ds → Q (.ref p) H') → te σ H Q
def EvT (K : PySem.W.Frag) (tt : TT) (env : Env1) (S : List Dat) (b : Bool) (S' : List Dat) : Prop :=
  ∀ B H as σ, Ok K B H as S → EnvR K B as σ env → ∀ Q : Bool → Hp → Prop, (∀ B' H', Ok K B' H' as S' → Evo B H as B' H' → Q b H') → tt σ H Q
def EvA (K : PySem.W.Frag) (ta : TA) (env : Env1) (S : List Dat) (rs : List Sl) (S' : List Dat) : Prop :=
  ∀ B H as σ, Ok K B H as S → EnvR K B as σ env → ∀ Q : List V → Hp → Prop, (∀ vs B' H', Ok K B' H' as S' → Evo B H as B' H' → RepSs K B' as vs rs → Q vs H') → ta σ H Q
/-- a two-place operation by values -/
def Op2 (K : PySem.W.Frag) (r : R2) (x y : Sl) (S : List Dat) (z : Dat) : Prop :=
  ∀ B H as v w, Ok K B H as S → RepS K B as v x → RepS K B as w y → ∀ Q : VK, (∀ u B' H', Ok K B' H' as S → Evo B H as B' H' → Rep K B' u z → Q u H') → r v w H Q
def Op1 (K : PySem.W.Frag) (r : V → Hp → VK → Prop) (x : Sl) (S : List Dat) (z : Dat) : Prop :=
  ∀ B H as v, Ok K B H as S → RepS K B as v x → ∀ Q : VK, (∀ u B' H', Ok K B' H' as S → Evo B H as B' H' → Rep K B' u z → Q u H') → r v H Q
/-- a call by values; it may change what is changed -/
def CallD (K : PySem.W.Frag) (r : List V → Hp → VK → Prop) (xs : List Sl) (S : List Dat) (z : Dat) (S' : List Dat) : Prop :=
  ∀ B H as vs, Ok K B H as S → RepSs K B as vs xs → ∀ Q : VK, (∀ u B' H', Ok K B' H' as S' → Evo B H as B' H' → Rep K B' u z → Q u H') → r vs H Q
section
variable {K : PySem.W.Frag} {te ta tb tc : TE} {tt tu : TT} {tA tR : TA} {env : Env1} {S S1 S2 S3 : List Dat} {x y z : Sl} {d e : Dat} {r : R2}
theorem ev_var {i : Nat} (h : env[i]? = some (some x)) : Ev K (tVar i) env S x S := fun B H as σ c g Q q => by
  obtain ⟨v, h1, h2⟩ := g.2 i x h
  exact ⟨v, h1, q v B H c Evo.refl h2⟩
theorem ev_int {i : Int} : Ev K (tC (.int i)) env S (.d (.int i)) S := fun B H as σ c g Q q => q _ B H c Evo.refl (.int i)
theorem ev_bl {b : Bool} : Ev K (tC (.bl b)) env S (.d (.bl b)) S := fun B H as σ c g Q q => q _ B H c Evo.refl (.bl b)
theorem ev_str {b : Str} : Ev K (tC (.str b)) env S (.d (.str b)) S := fun B H as σ c g Q q => q _ B H c Evo.refl (.str b)
theorem ev_non : Ev K (tC .non) env S (.d .non) S := fun B H as σ c g Q q => q _ B H c Evo.refl .non
theorem ev_ty {n : String} : Ev K (tC (.ty n)) env S (.d (.ty n)) S := fun B H as σ c g Q q => q _ B H c Evo.refl (.ty n)
theorem ev_adr {a : Addr} : Ev K (tC (.ref a)) env S (.d (.adr a)) S := fun B H as σ c g Q q => q _ B H c Evo.refl (.adr a)
theorem Ev.to {r r' : Sl} (h : Ev K te env S r S1) (e : r = r') : Ev K te env S r' S1 := e ▸ h
theorem EvT.to {b b' : Bool} (h : EvT K tt env S b S1) (e : b = b') : EvT K tt env S b' S1 := e ▸ h
theorem ev_op (ha : Ev K ta env S x S1) (hb : Ev K tb env S1 y S2) (hr : Op2 K r x y S2 d) : Ev K (tOp r ta tb) env S (.d d) S2 := fun B H as σ c g Q q =>
  ha B H as σ c g _ fun v B1 H1 c1 e1 r1 => hb B1 H1 as σ c1 (g.mono e1.ex) _ fun w B2 H2 c2 e2 r2 =>
    hr B2 H2 as v w c2 (r1.mono e2.ex) r2 _ fun u B3 H3 c3 e3 r3 => q u B3 H3 c3 ((e1.trans e2).trans e3) r3
theorem ev_un {r : V → Hp → VK → Prop} (ha : Ev K ta env S x S1) (hr : Op1 K r x S1 d) : Ev K (tUn r ta) env S (.d d) S1 := fun B H as σ c g Q q =>
  ha B H as σ c g _ fun v B1 H1 c1 e1 r1 => hr B1 H1 as v c1 r1 _ fun u B3 H3 c3 e3 r3 => q u B3 H3 c3 (e1.trans e3) r3
theorem op2_int0 {g : Int → Int → V} {i j : Int} (h : ∀ B : Hp, Rep K B (g i j) d) : Op2 K (rI0 g) (.d (.int i)) (.d (.int j)) S d := fun B H as v w c h1 h2 Q q => by
  cases h1; cases h2
  exact ⟨i, j, rfl, rfl, q _ B H c Evo.refl (h B)⟩
theorem op2_int {C : Int → Int → Prop} {g : Int → Int → V} {i j : Int} (hc : C i j) (h : ∀ B : Hp, Rep K B (g i j) d) : Op2 K (rI C g) (.d (.int i)) (.d (.int j)) S d := fun B H as v w c h1 h2 Q q => by
  cases h1; cases h2
  exact ⟨i, j, rfl, rfl, hc, q _ B H c Evo.refl (h B)⟩
theorem op1_int {g : Int → V} {i : Int} (h : ∀ B : Hp, Rep K B (g i) d) : Op1 K (rU g) (.d (.int i)) S d := fun B H as v c h1 Q q => by
  cases h1
  exact ⟨i, rfl, q _ B H c Evo.refl (h B)⟩
theorem ea_nil : EvA K tNil env S [] S := fun B H as σ c g Q q => q [] B H c Evo.refl .nil
theorem ea_cons {xs : List Sl} (h : Ev K ta env S x S1) (hr : EvA K tA env S1 xs S2) : EvA K (tCons ta tA) env S (x :: xs) S2 := fun B H as σ c g Q q =>
  h B H as σ c g _ fun v B1 H1 c1 e1 r1 => hr B1 H1 as σ c1 (g.mono e1.ex) _ fun vs B2 H2 c2 e2 r2 => q _ B2 H2 c2 (e1.trans e2) (.cons (r1.mono e2.ex) r2)
theorem ev_tup {ds : List Dat} (h : EvA K tA env S (ds.map Sl.d) S1) (hl : ds.length ≤ sizeLine) : Ev K (tTup tA) env S (.d (.tup ds)) S1 := fun B H as σ c g Q q =>
  h B H as σ c g _ fun vs B1 H1 c1 e1 r1 => ⟨by rw [r1.ds.length]; exact hl, fun p hp =>
    q _ (upd B1 p (.tup vs)) _ (c1.new hp) (e1.trans (Evo.new c1 hp)) (.tup (.inl (.inl upd_same)) (r1.ds.mono (Evl.Ex.new (c1.Bnone hp))))⟩
/-- a list that nothing knows becomes known -/
theorem Ok.know {B H : Hp} {as : List Addr} {p : Addr} {ob : HO} (c : Ok K B H as S) (hp : H p = some ob) (hb : B p = none) (ha : p ∉ as) (ho : ∀ ps, ob ≠ .tbl ps := by exact fun _ z => nomatch z) : Ok K (upd B p ob) H as S where
  ex := fun a u e => by
    by_cases q : a = p
    · subst q; rw [upd_same] at e; cases e; exact hp
    · rw [upd_ne q] at e; exact c.ex a u e
  len := c.len
  cells := fun k a s h1 h2 => by
    obtain ⟨q1, q2⟩ := c.cells k a s h1 h2
    have ne : a ≠ p := by
      intro z
      subst z
      exact ha (List.mem_of_getElem? h1)
    rw [upd_ne ne]
    refine ⟨q1, ?_⟩
    obtain ⟨o, q3, q4⟩ := q2
    exact ⟨o, q3, q4.mono (Evl.Ex.new hb)⟩
  nd := c.nd
  lk := c.lk
  tb := c.tb
  ntb := fun a ps e => by
    by_cases q : a = p
    · subst q; rw [upd_same] at e; exact ho ps (Option.some.inj e)
    · rw [upd_ne q] at e; exact c.ntb a ps e
theorem Ok.there {B H : Hp} {as : List Addr} {p : Addr} (c : Ok K B H as S) (hp : p ∈ as) : ∃ o, H p = some o := by
  obtain ⟨k, hk⟩ := List.mem_iff_getElem?.mp hp
  have hl : k < S.length := by rw [← c.len]; exact (List.getElem?_eq_some_iff.mp hk).1
  obtain ⟨_, o, q3, _⟩ := c.cells k p S[k] hk (List.getElem?_eq_getElem hl)
  exact ⟨o, q3⟩
theorem Ok.fresh {B H : Hp} {as : List Addr} {p : Addr} (c : Ok K B H as S) (hp : H p = none) : p ∉ as := fun h => by
  obtain ⟨o, q⟩ := c.there h
  rw [hp] at q; cases q
theorem EvN.ev {ds : List Dat} (h : EvN K te env S ds S1) : Ev K te env S (.d (.lst ds)) S1 := fun B H as σ c g Q q =>
  h B H as σ c g _ fun p B1 H1 vs c1 e1 hp hb hl r1 =>
    q _ (upd B1 p (.lst vs)) H1 (c1.know hl hb hp.1) ⟨e1.ex.trans (Evl.Ex.new hb), e1.fr, fun a o h nt => by rw [upd_ne (by rintro rfl; exact hp.2.no h nt)]; exact e1.gr a o h nt, e1.tp, e1.pr⟩ (.lst upd_same (r1.mono (Evl.Ex.new hb)))
/-- made at p just now -/
theorem evn_new {B H B1 H1 : Hp} {as : List Addr} {p : Addr} {vs : List V} {ds : List Dat} {Q : VK} (c : Ok K B H as S) (c1 : Ok K B1 H1 as S1) (e1 : Evo B H as B1 H1) (hp : H1 p = none) (r1 : Reps K B1 vs ds)
    (q : ∀ p B' H' vs, Ok K B' H' as S1 → Evo B H as B' H' → Fresh H as p → B' p = none → H' p = some (.lst vs) → Reps K B' vs ds → Q (.ref p) H') : Q (.ref p) (upd H1 p (.lst vs)) := by
  have hp0 : Nn H p := fun o h => by
    by_cases nt : ∀ ps, o ≠ .tbl ps
    · obtain ⟨o', h', _⟩ := e1.pr p o h nt
      rw [hp] at h'; cases h'
    · exact Classical.byContradiction fun z => nt fun ps e => z ⟨ps, e⟩
  have hpa : p ∉ as := c1.fresh hp
  refine q p B1 _ vs ⟨fun a u e => ?_, c1.len, fun k a s h1 h2 => ?_, c1.nd, fun k a s o h1 h2 h3 => c1.lk k a s o h1 h2 (by rw [upd_ne (by rintro rfl; exact hpa (List.mem_of_getElem? h1))] at h3; exact h3), c1.ntb, c1.tb⟩ ⟨e1.ex, fun a u n h nt => ?_, fun a o h nt => (e1.gr a o h nt).imp id fun ⟨o', fo, z⟩ => ⟨o', fo, by rw [upd_ne (ne_of_none z hp)]; exact z⟩, fun a o fo h => ?_, fun a o h nt => ?_⟩ ⟨hpa, hp0⟩ (c1.Bnone hp) upd_same r1
  · rw [upd_ne (by rintro rfl; rw [c1.Bnone hp] at e; cases e)]
    exact c1.ex a u e
  · obtain ⟨q1, q2⟩ := c1.cells k a s h1 h2
    have ne : a ≠ p := by rintro rfl; exact hpa (List.mem_of_getElem? h1)
    refine ⟨q1, ?_⟩
    obtain ⟨o, q3, q4⟩ := q2
    exact ⟨o, by rw [upd_ne ne]; exact q3, q4⟩
  · rw [upd_ne (by rintro rfl; exact hp0.no h nt)]
    exact e1.fr a u n h nt
  · exact (by
      have h1 := e1.tp a o fo h
      rw [upd_ne (ne_of_none h1 hp)]; exact h1)
  · obtain ⟨o', h', n'⟩ := e1.pr a o h nt
    exact ⟨o', by rw [upd_ne (ne_of_none h' hp)]; exact h', n'⟩
theorem en_lst {ds : List Dat} (h : EvA K tA env S (ds.map Sl.d) S1) (hl : ds.length ≤ sizeLine) : EvN K (tLst tA) env S ds S1 := fun B H as σ c g Q q =>
  h B H as σ c g _ fun vs B1 H1 c1 e1 r1 => ⟨by rw [r1.ds.length]; exact hl, fun p hp => evn_new c c1 e1 hp r1.ds q⟩

/-! ### sequences as they are read -/
/-- the k-th changed thing is a list of ds -/
def LCell (S : List Dat) (k : Nat) (ds : List Dat) : Prop := S[k]? = some (.lst ds) ∨ ∃ p, S[k]? = some (.lsa p ds)
theorem Ok.lcell {B H : Hp} {as : List Addr} {k : Nat} {a : Addr} {ds : List Dat} (c : Ok K B H as S) (ha : as[k]? = some a) (h : LCell S k ds) : B a = none ∧ ∃ vs, H a = some (.lst vs) ∧ Reps K B vs ds := by
  rcases h with h | ⟨p, h⟩
  · obtain ⟨q0, q⟩ := c.cells k a _ ha h
    exact ⟨q0, q.lst⟩
  · obtain ⟨q0, q⟩ := c.cells k a _ ha h
    exact ⟨q0, q.lsa⟩
/-- a list or a tuple (known, or changed now) of ds -/
def Seq (S : List Dat) (x : Sl) (ds : List Dat) : Prop := x = .d (.lst ds) ∨ x = .d (.tup ds) ∨ ∃ k, x = .c k ∧ LCell S k ds
theorem Seq.lst {ds : List Dat} : Seq S (.d (.lst ds)) ds := .inl rfl
theorem Seq.tup {ds : List Dat} : Seq S (.d (.tup ds)) ds := .inr (.inl rfl)
theorem Seq.cell {ds : List Dat} {k : Nat} (h : S[k]? = some (.lst ds)) : Seq S (.c k) ds := .inr (.inr ⟨k, rfl, .inl h⟩)
theorem Seq.cellA {ds : List Dat} {k : Nat} {p : Addr} (h : S[k]? = some (.lsa p ds)) : Seq S (.c k) ds := .inr (.inr ⟨k, rfl, .inr ⟨p, h⟩⟩)
theorem Seq.read {B H : Hp} {as : List Addr} {v : V} {ds : List Dat} (c : Ok K B H as S) (h : Seq S x ds) (r : RepS K B as v x) : ∃ a k vs, v = .ref a ∧ Sq K k H a vs ∧ Reps K B vs ds := by
  rcases h with rfl | rfl | ⟨k, rfl, hk⟩
  · cases r with
    | lst h r => exact ⟨_, true, _, rfl, Or.inl (Or.inl (c.ex _ _ h)), r⟩
  · cases r with
    | tup h r => exact ⟨_, false, _, rfl, Evl.ex_t c.ex h, r⟩
  · obtain ⟨a, ha, rfl⟩ := r
    obtain ⟨_, vs, q1, q2⟩ := c.lcell ha hk
    exact ⟨a, true, vs, rfl, Or.inl (Or.inl q1), q2⟩
/-- .. that is a list -/
def SeqL (S : List Dat) (x : Sl) (ds : List Dat) : Prop := x = .d (.lst ds) ∨ ∃ k, x = .c k ∧ LCell S k ds
theorem SeqL.read {B H : Hp} {as : List Addr} {v : V} {ds : List Dat} (c : Ok K B H as S) (h : SeqL S x ds) (r : RepS K B as v x) : ∃ a vs, v = .ref a ∧ H a = some (.lst vs) ∧ Reps K B vs ds := by
  rcases h with rfl | ⟨k, rfl, hk⟩
  · cases r with
    | lst h r => exact ⟨_, _, rfl, c.ex _ _ h, r⟩
  · obtain ⟨a, ha, rfl⟩ := r
    obtain ⟨_, vs, q1, q2⟩ := c.lcell ha hk
    exact ⟨a, vs, rfl, q1, q2⟩
theorem SeqL.lst {ds : List Dat} : SeqL S (.d (.lst ds)) ds := .inl rfl
theorem SeqL.cell {ds : List Dat} {k : Nat} (h : S[k]? = some (.lst ds)) : SeqL S (.c k) ds := .inr ⟨k, rfl, .inl h⟩
theorem SeqL.cellA {ds : List Dat} {k : Nat} {p : Addr} (h : S[k]? = some (.lsa p ds)) : SeqL S (.c k) ds := .inr ⟨k, rfl, .inr ⟨p, h⟩⟩
theorem sq_or {H : Hp} {a : Addr} {vs : List V} {k : Bool} (h : Sq K k H a vs) : SqL K H a vs ∨ SqT K H a vs := by
  cases k with
  | true => exact .inl h
  | false => exact .inr h
theorem atI_reps {B : Hp} {vs : List V} {ds : List Dat} {i : Int} {d : Dat} (r : Reps K B vs ds) (h : atI ds i = some d) : ∃ v, atI vs i = some v ∧ Rep K B v d := by
  unfold atI at h ⊢
  rw [r.length]
  cases e : ixN ds.length i with
  | none => rw [e] at h; cases h
  | some j =>
    rw [e] at h
    exact r.get h
/-- xs[i] -/
theorem op2_ix {ds : List Dat} {i : Int} (h : Seq S x ds) (hi : atI ds i = some d) : Op2 K (rIx K) x (.d (.int i)) S d := fun B H as v w c h1 h2 Q q => by
  obtain ⟨a, k, vs, rfl, hq, hr⟩ := h.read c h1
  obtain ⟨u, hu, ru⟩ := atI_reps hr hi
  cases h2
  cases k with
  | true => exact .inl ⟨a, vs, i, u, rfl, rfl, hq, hu, q u B H c Evo.refl ru⟩
  | false => exact .inr (.inl ⟨a, vs, i, u, rfl, rfl, hq, hu, q u B H c Evo.refl ru⟩)
end
end RW

set_option Elab.async false
set_option linter.all false
set_option maxRecDepth 100000
set_option maxHeartbeats 4000000
namespace RW
open PySem PySem.Spec PyProof.Rows L2
open Evl (Ex)

/-! ### statements -/
structure Post where
  nx : Env1 → List Dat → Prop := fun _ _ => False
  rt : Dat → List Dat → Prop := fun _ _ => False
  bk : Env1 → List Dat → Prop := fun _ _ => False
  ct : Env1 → List Dat → Prop := fun _ _ => False
  ok : Hp → Hp → List Addr → Prop := fun _ _ _ => True
/-- where a def's body stands: it was entered at B0, H0 with the changed things as0 -/
structure Fr (B0 H0 : Hp) (as0 : List Addr) (Bk : Hp) (B H : Hp) (as : List Addr) : Prop where
  kn : Ex Bk B
  base : as.take as0.length = as0
  evo : Evo B0 H0 as0 B H
  loc : ∀ a ∈ as.drop as0.length, Nn H0 a
def MeetE (K : PySem.W.Frag) (B0 H0 : Hp) (as0 : List Addr) (Bk : Hp) (p : Env1 → List Dat → Prop) (D : L2.St → Hp → Prop) : Prop :=
  ∀ env' S' B' H' as' σ', Fr B0 H0 as0 Bk B' H' as' → Ok K B' H' as' S' → EnvR K B' as' σ' env' → p env' S' → D σ' H'
structure Meets (K : PySem.W.Frag) (B0 H0 : Hp) (as0 : List Addr) (Bk : Hp) (D : Ends) (P : Post) : Prop where
  nx : MeetE K B0 H0 as0 Bk P.nx D.nx
  rt : ∀ v r S' B' H', Ok K B' H' as0 S' → Evo B0 H0 as0 B' H' → Rep K B' v r → P.rt r S' → D.rt v H'
  bk : MeetE K B0 H0 as0 Bk P.bk D.bk
  ct : MeetE K B0 H0 as0 Bk P.ct D.ct
  ok : P.ok B0 H0 as0
/-- run from env, S, where n of the changed things came with the call, it ends in P -/
def SP (K : PySem.W.Frag) (n : Nat) (ts : TS) (env : Env1) (S : List Dat) (P : Post) : Prop :=
  ∀ B0 H0 as0 Bk B H as σ, as0.length = n → Fr B0 H0 as0 Bk B H as → Ok K B H as S → EnvR K B as σ env → ∀ D : Ends, Meets K B0 H0 as0 Bk D P → ts D σ H
section
variable {K : PySem.W.Frag} {n : Nat} {te ta tb tc to ti : TE} {tt : TT} {tA tR : TA} {env env' : Env1} {S S1 S2 S3 : List Dat} {x y z : Sl} {d e : Dat} {ds : List Dat} {r : R2} {P P' : Post} {t u : TS}
  {B B0 B1 B' Bk H H0 H1 H' : Hp} {as as0 as1 : List Addr} {D : Ends} {σ : L2.St} {i : Nat}
theorem Evo.oldN (e : Evo B H as B1 H1) {a : Addr} (h : Nn H1 a) : Nn H a := fun o q => by
  by_cases nt : ∀ ps, o ≠ .tbl ps
  · obtain ⟨o', h', n'⟩ := e.pr a o q nt
    exact (h.no h' n').elim
  · exact Classical.byContradiction fun z => nt fun ps e => z ⟨ps, e⟩
theorem Evo.old (e : Evo B H as B1 H1) {a : Addr} (h : H1 a = none) : Nn H a := e.oldN (.of h)
theorem Ok.upto (c : Ok K B H as S) (k : Nat) : Ok K B H (as.take k) (S.take k) where
  ex := c.ex
  len := by rw [List.length_take, List.length_take, c.len]
  cells := fun j a s h1 h2 => by
    have hk : j < (as.take k).length := (List.getElem?_eq_some_iff.mp h1).1
    rw [List.length_take] at hk
    have hk' : j < k := by omega
    rw [List.getElem?_take_of_lt hk'] at h1 h2
    exact c.cells j a s h1 h2
  nd := c.nd.sublist (List.take_sublist _ _)
  ntb := c.ntb
  tb := fun j d P h hd => by
    have hk : j < (S.take k).length := (List.getElem?_eq_some_iff.mp h).1
    rw [List.length_take] at hk
    have hk' : j < k := by omega
    rw [List.getElem?_take_of_lt hk'] at h ⊢
    exact c.tb j d P h hd
  lk := fun j a s o h1 h2 h3 => by
    have hk : j < (as.take k).length := (List.getElem?_eq_some_iff.mp h1).1
    rw [List.length_take] at hk
    have hk' : j < k := by omega
    rw [List.getElem?_take_of_lt hk'] at h1 h2
    intro C fs f i e q1 q2
    obtain ⟨b, dx, vs, r1, r2⟩ := c.lk j a s o h1 h2 h3 C fs f i e q1 q2
    exact ⟨b, dx, vs, by rw [List.getElem?_take_of_lt (by omega)]; exact r1, r2⟩
theorem Fr.step (f : Fr B0 H0 as0 Bk B H as) (e : Evo B H as B1 H1) : Fr B0 H0 as0 Bk B1 H1 as where
  kn := f.kn.trans e.ex
  base := f.base
  evo := ⟨f.evo.ex.trans e.ex, fun a o hn q nt => e.fr a o (fun hm => by
      rw [← List.take_append_drop as0.length as, f.base] at hm
      rcases List.mem_append.mp hm with z | z
      · exact hn z
      · exact (f.loc a z).no q nt) (f.evo.fr a o hn q nt) nt, fun a o q nt => let ⟨o1, h1, n1⟩ := f.evo.pr a o q nt; (e.gr a o1 h1 n1).elim (fun z => (f.evo.gr a o q nt).elim (fun z2 => .inl (z.trans z2)) fun ⟨o, fo, h⟩ => .inr ⟨o, fo, e.tp a o fo h⟩) .inr, fun a o fo h => e.tp a o fo (f.evo.tp a o fo h), fun a o q nt => let ⟨o1, h1, n1⟩ := f.evo.pr a o q nt; e.pr a o1 h1 n1⟩
  loc := f.loc
theorem Fr.len (f : Fr B0 H0 as0 Bk B H as) : as0.length ≤ as.length := by
  have := congrArg List.length f.base
  rw [List.length_take] at this
  omega
/-- one more changed thing -/
theorem Fr.push {p : Addr} (f : Fr B0 H0 as0 Bk B H as) (h : Nn H0 p) : Fr B0 H0 as0 Bk B H (as ++ [p]) where
  kn := f.kn
  base := by rw [List.take_append_of_le_length f.len]; exact f.base
  evo := f.evo
  loc := fun a ha => by
    rw [List.drop_append_of_le_length f.len] at ha
    rcases List.mem_append.mp ha with z | z
    · exact f.loc a z
    · rw [List.mem_singleton.mp z]; exact h
theorem Ok.push {p : Addr} {s0 : Dat} (c : Ok K B H as S) (hb : B p = none) (ha : p ∉ as) (r : CellAt K B H p s0) (l : ∀ o, H p = some o → LkO as as.length o s0 := by exact fun _ _ _ _ _ _ h => nomatch h) (ht : ∀ P, adrOf s0 = some P → p = P := by exact fun _ h => nomatch h) : Ok K B H (as ++ [p]) (S ++ [s0]) where
  ex := c.ex
  len := by rw [List.length_append, List.length_append, c.len]; rfl
  cells := fun k a s h1 h2 => by
    by_cases hk : k < as.length
    · rw [List.getElem?_append_left hk] at h1
      rw [List.getElem?_append_left (by rw [← c.len]; exact hk)] at h2
      exact c.cells k a s h1 h2
    · have hk2 : ¬ k < S.length := by rw [← c.len]; exact hk
      rw [List.getElem?_append_right (by omega)] at h1 h2
      have e0 : k - as.length = 0 := by
        have := (List.getElem?_eq_some_iff.mp h1).1
        simp at this
        omega
      have e1 : k - S.length = 0 := by rw [← c.len]; exact e0
      rw [e0] at h1
      rw [e1] at h2
      simp at h1 h2
      subst h1 h2
      exact ⟨hb, r⟩
  nd := List.nodup_append.mpr ⟨c.nd, by simp, fun a h1 b h2 => by rw [List.mem_singleton.mp h2]; rintro rfl; exact ha h1⟩
  ntb := c.ntb
  tb := fun k d P h hd => by
    by_cases hk : k < S.length
    · rw [List.getElem?_append_left hk] at h
      rw [List.getElem?_append_left (by rw [c.len]; exact hk)]
      exact c.tb k d P h hd
    · rw [List.getElem?_append_right (by omega)] at h
      have e1 : k - S.length = 0 := by
        have := (List.getElem?_eq_some_iff.mp h).1
        simp at this
        omega
      rw [e1] at h
      simp at h
      subst h
      rw [List.getElem?_append_right (by rw [c.len]; omega), c.len, e1, ht P hd]
      rfl
  lk := fun k a s o h1 h2 h3 => by
    by_cases hk : k < as.length
    · rw [List.getElem?_append_left hk] at h1
      rw [List.getElem?_append_left (by rw [← c.len]; exact hk)] at h2
      intro C fs f i e q1 q2
      obtain ⟨b, dx, vs, r1, r2⟩ := c.lk k a s o h1 h2 h3 C fs f i e q1 q2
      exact ⟨b, dx, vs, by rw [List.getElem?_append_left (by omega)]; exact r1, r2⟩
    · have hk2 : ¬ k < S.length := by rw [← c.len]; exact hk
      rw [List.getElem?_append_right (by omega)] at h1 h2
      have e0 : k - as.length = 0 := by
        have := (List.getElem?_eq_some_iff.mp h1).1
        simp at this
        omega
      have e1 : k - S.length = 0 := by rw [← c.len]; exact e0
      rw [e0] at h1
      rw [e1] at h2
      simp at h1 h2
      subst h1 h2
      have ek : k = as.length := by omega
      subst ek
      intro C fs f i e q1 q2
      obtain ⟨b, dx, vs, r1, r2⟩ := l o h3 C fs f i e q1 q2
      exact ⟨b, dx, vs, by rw [List.getElem?_append_left (by omega)]; exact r1, r2⟩
theorem SP.imp (h : SP K n t env S P) (hn : ∀ env' S', P.nx env' S' → P'.nx env' S') (hr : ∀ r S', P.rt r S' → P'.rt r S') (hb : ∀ env' S', P.bk env' S' → P'.bk env' S') (hc : ∀ env' S', P.ct env' S' → P'.ct env' S') (ho : ∀ B0 H0 as0, P'.ok B0 H0 as0 → P.ok B0 H0 as0 := by exact fun _ _ _ h => h) : SP K n t env S P' :=
  fun B0 H0 as0 Bk B H as σ hl f c g D m => h B0 H0 as0 Bk B H as σ hl f c g D ⟨fun a b c d e f g h i p => m.nx a b c d e f g h i (hn _ _ p), fun a b c d e f g h p => m.rt a b c d e f g h (hr _ _ p),
    fun a b c d e f g h i p => m.bk a b c d e f g h i (hb _ _ p), fun a b c d e f g h i p => m.ct a b c d e f g h i (hc _ _ p), ho _ _ _ m.ok⟩
theorem sp_seq (h : SP K n t env S { P with nx := P'.nx }) (k : ∀ env' S', P'.nx env' S' → SP K n u env' S' P) : SP K n (tSeq t u) env S P := fun B0 H0 as0 Bk B H as σ hl f c g D m =>
  h B0 H0 as0 Bk B H as σ hl f c g { D with nx := u D } ⟨fun env' S' B' H' as' σ' f' c' g' p => k env' S' p B0 H0 as0 Bk B' H' as' σ' hl f' c' g' D m, m.rt, m.bk, m.ct, m.ok⟩
/-- the first one goes on at one place alone -/
theorem sp_then (h : SP K n t env S { P with nx := fun env' S' => env' = env1 ∧ S' = S1 }) (k : SP K n u env1 S1 P) : SP K n (tSeq t u) env S P :=
  sp_seq (P' := { nx := fun env' S' => env' = env1 ∧ S' = S1 }) h fun env' S' ⟨e1, e2⟩ => by subst e1 e2; exact k
theorem sp_next (h : P.nx env S) : SP K n tNext env S P := fun B0 H0 as0 Bk B H as σ hl f c g D m => m.nx env S B H as σ f c g h
theorem sp_break (h : P.bk env S) : SP K n tBreak env S P := fun B0 H0 as0 Bk B H as σ hl f c g D m => m.bk env S B H as σ f c g h
theorem sp_cont (h : P.ct env S) : SP K n tCont env S P := fun B0 H0 as0 Bk B H as σ hl f c g D m => m.ct env S B H as σ f c g h
/-- x = e, and what follows -/
theorem sp_set (h : Ev K te env S x S1) (k : SP K n u (env.set i (some x)) S1 P) : SP K n (tSeq (tAsg te (gName i)) u) env S P := fun B0 H0 as0 Bk B H as σ hl f c g D m =>
  h B H as σ c g _ fun v B1 H1 c1 e1 r1 => k B0 H0 as0 Bk B1 H1 as _ hl (f.step e1) c1 ((g.mono e1.ex).set i r1) D m
theorem sp_set1 (h : Ev K te env S x S1) (k : P.nx (env.set i (some x)) S1) : SP K n (tAsg te (gName i)) env S P := fun B0 H0 as0 Bk B H as σ hl f c g D m =>
  h B H as σ c g _ fun v B1 H1 c1 e1 r1 => m.nx _ S1 B1 H1 as _ (f.step e1) c1 ((g.mono e1.ex).set i r1) k
/-- x = a new list, which will be changed -/
theorem sp_setC (h : EvN K te env S ds S1) (k : SP K n u (env.set i (some (.c S1.length))) (S1 ++ [.lst ds]) P) : SP K n (tSeq (tAsg te (gName i)) u) env S P := fun B0 H0 as0 Bk B H as σ hl f c g D m =>
  h B H as σ c g _ fun p B1 H1 vs c1 e1 hp hb h1 r1 => by
    have hpa := hp.1
    refine k B0 H0 as0 Bk B1 H1 (as ++ [p]) _ hl ((f.step e1).push (f.evo.oldN hp.2)) (c1.push hb hpa (.ofL h1 r1)) (((g.mono e1.ex).grow).set i ?_) D m
    exact ⟨p, by rw [← c1.len]; simp, rfl⟩
/-- return e -/
theorem sp_ret (h : Ev K te env S (.d d) S1) (k : P.rt d (S1.take n)) : SP K n (tRet te) env S P := fun B0 H0 as0 Bk B H as σ hl f c g D m =>
  h B H as σ c g _ fun v B1 H1 c1 e1 r1 => by
    have f1 := f.step e1
    have c2 := c1.upto as0.length
    rw [f1.base] at c2
    subst hl
    exact m.rt v d _ B1 H1 c2 f1.evo r1 k
/-- return xs, a list that was made here and changed -/
theorem sp_retC {j k : Nat} (h : env[j]? = some (some (.c k))) (hs : S[k]? = some (.lst ds)) (hk : n ≤ k) (q : P.rt (.lst ds) (S.take n)) : SP K n (tRet (tVar j)) env S P := fun B0 H0 as0 Bk B H as σ hl f c g D m => by
  obtain ⟨v, h1, a, ha, rfl⟩ := g.2 j _ h
  obtain ⟨hb, q0⟩ := c.cells k a _ ha hs
  obtain ⟨vs, hv, rv⟩ := q0.lst
  refine ⟨.ref a, h1, ?_⟩
  have c2 := c.upto as0.length
  rw [f.base] at c2
  subst hl
  have hd : a ∈ as.drop as0.length := by
    have hkl := (List.getElem?_eq_some_iff.mp ha).1
    refine List.mem_of_getElem? (i := k - as0.length) ?_
    rw [List.getElem?_drop]
    rw [show as0.length + (k - as0.length) = k by omega]
    exact ha
  have hn : a ∉ as0 := by
    intro hm
    have nd := c.nd
    rw [← List.take_append_drop as0.length as, f.base] at nd
    exact (List.nodup_append.mp nd).2.2 a hm a hd rfl
  have h0 := f.loc a hd
  exact m.rt (.ref a) (.lst ds) _ (upd B a (.lst vs)) H (c2.know hv hb hn) ⟨f.evo.ex.trans (Evl.Ex.new hb), f.evo.fr, fun b o hb' nt => by rw [upd_ne (by rintro rfl; exact h0.no hb' nt)]; exact f.evo.gr b o hb' nt, f.evo.tp, f.evo.pr⟩ (.lst upd_same (rv.mono (Evl.Ex.new hb))) q
theorem sp_retN (k : P.rt .non (S.take n)) : SP K n tRetN env S P := fun B0 H0 as0 Bk B H as σ hl f c g D m => by
  have c2 := c.upto as0.length
  rw [f.base] at c2
  subst hl
  exact m.rt .non .non _ B H c2 f.evo .non k
/-- e, and what follows -/
theorem sp_drop (h : Ev K te env S x S1) (k : SP K n u env S1 P) : SP K n (tSeq (tDrop te) u) env S P := fun B0 H0 as0 Bk B H as σ hl f c g D m =>
  h B H as σ c g _ fun v B1 H1 c1 e1 r1 => k B0 H0 as0 Bk B1 H1 as _ hl (f.step e1) c1 (g.mono e1.ex) D m
theorem sp_drop1 (h : Ev K te env S x S1) (k : P.nx env S1) : SP K n (tDrop te) env S P := fun B0 H0 as0 Bk B H as σ hl f c g D m =>
  h B H as σ c g _ fun v B1 H1 c1 e1 r1 => m.nx _ S1 B1 H1 as _ (f.step e1) c1 (g.mono e1.ex) k
theorem sp_if {b : Bool} (h : EvT K tt env S b S1) (h1 : b = true → SP K n t env S1 P) (h2 : b = false → SP K n u env S1 P) : SP K n (tIfS tt t u) env S P := fun B0 H0 as0 Bk B H as σ hl f c g D m =>
  h B H as σ c g _ fun B1 H1 c1 e1 => by
    cases b with
    | true => exact h1 rfl B0 H0 as0 Bk B1 H1 as _ hl (f.step e1) c1 (g.mono e1.ex) D m
    | false => exact h2 rfl B0 H0 as0 Bk B1 H1 as _ hl (f.step e1) c1 (g.mono e1.ex) D m
/-- an if, and what follows -/
theorem sp_ifq {v : TS} {b : Bool} (h : EvT K tt env S b S1) (h1 : b = true → SP K n (tSeq t v) env S1 P) (h2 : b = false → SP K n (tSeq u v) env S1 P) : SP K n (tSeq (tIfS tt t u) v) env S P := fun B0 H0 as0 Bk B H as σ hl f c g D m =>
  h B H as σ c g _ fun B1 H1 c1 e1 => by
    cases b with
    | true => exact h1 rfl B0 H0 as0 Bk B1 H1 as _ hl (f.step e1) c1 (g.mono e1.ex) D m
    | false => exact h2 rfl B0 H0 as0 Bk B1 H1 as _ hl (f.step e1) c1 (g.mono e1.ex) D m
theorem sp_nextq {v : TS} (h : SP K n v env S P) : SP K n (tSeq tNext v) env S P := fun B0 H0 as0 Bk B H as σ hl f c g D m => h B0 H0 as0 Bk B H as σ hl f c g D m
theorem sp_retq {v : TS} (h : SP K n (tRet te) env S P) : SP K n (tSeq (tRet te) v) env S P := fun B0 H0 as0 Bk B H as σ hl f c g D m =>
  h B0 H0 as0 Bk B H as σ hl f c g { D with nx := fun _ _ => True } ⟨fun _ _ _ _ _ _ _ _ _ _ => trivial, m.rt, m.bk, m.ct, m.ok⟩
theorem sp_assoc {v : TS} (h : SP K n (tSeq t (tSeq u v)) env S P) : SP K n (tSeq (tSeq t u) v) env S P := h

/-! ### a def's promise: G args S result S' -/
def SpD (K : PySem.W.Frag) (G : List Sl → List Dat → Dat → List Dat → Prop) : Sp := fun vs H Q _ => ∃ B as S ss r S', Ok K B H as S ∧ RepSs K B as vs ss ∧ G ss S r S' ∧
  ∀ v B' H', Ok K B' H' as S' → Evo B H as B' H' → Rep K B' v r → Q v H'
theorem sp_body {G : List Sl → List Dat → Dat → List Dat → Prop} {N : List Str} {vs : List V} {Q : VK} {E : XK} (h : SpD K G vs H Q E)
    (k : ∀ ss S r S', G ss S r S' → SP K S.length t (ss.map some ++ List.replicate (N.length - ss.length) none) S { rt := fun r' T => r' = r ∧ T = S', nx := fun _ T => r = .non ∧ T.take S.length = S' }) :
    t { nx := fun _ H' => Q .non H', rt := Q } (start N vs) H := by
  obtain ⟨B, as, S, ss, r, S', c, rs, g, q⟩ := h
  refine k ss S r S' g B H as B B H as _ c.len ⟨Evl.Ex.refl B, List.take_length, Evo.refl, fun a ha => ?_⟩ c (EnvR.start rs) _ ⟨fun env' T B' H' as' σ' f c' g' ⟨p1, p2⟩ => ?_, fun v r' T B' H' c' e' r1 ⟨p1, p2⟩ => ?_, fun _ _ _ _ _ _ _ _ _ p => p.elim, fun _ _ _ _ _ _ _ _ _ p => p.elim, trivial⟩
  · rw [List.drop_length] at ha; cases ha
  · subst p1
    have c2 := c'.upto as.length
    rw [f.base, c.len, p2] at c2
    exact q .non B' H' c2 f.evo .non
  · subst p1 p2
    exact q v B' H' c' e' r1
theorem spd_len {G : List Sl → List Dat → Dat → List Dat → Prop} {k : Nat} (h : ∀ ss S r S', G ss S r S' → ss.length = k) : ∀ vs H Q E, SpD K G vs H Q E → vs.length = k := fun vs H Q E q => by
  obtain ⟨B, as, S, ss, r, S', c, rs, g, _⟩ := q
  rw [rs.length]
  exact h ss S r S' g
theorem ev_call {G : List Sl → List Dat → Dat → List Dat → Prop} {ss : List Sl} {E : XK} (h : EvA K tA env S ss S1) (hg : G ss S1 d S2) : Ev K (tCall (SpD K G) [] E tA) env S (.d d) S2 := fun B H as σ c g Q q =>
  h B H as σ c g _ fun vs B1 H1 c1 e1 r1 => ⟨B1, as, S1, ss, d, S2, c1, by rw [List.append_nil]; exact r1, hg, fun v B2 H2 c2 e2 r2 => q v B2 H2 c2 (e1.trans e2) r2⟩
end
end RW

set_option Elab.async false
set_option linter.all false
set_option maxRecDepth 100000
set_option maxHeartbeats 4000000
namespace RW
open PySem PySem.Spec PyProof.Rows L2
open Evl (Ex)
section
variable {K : PySem.W.Frag} {n : Nat} {te ta tb tc to ti : TE} {tt tu : TT} {tA tR : TA} {env env' : Env1} {S S1 S2 S3 : List Dat} {x y z : Sl} {d e : Dat} {ds es : List Dat} {r r' : R2} {P P' : Post} {t u : TS}
  {B B0 B1 B' H H0 H1 H' : Hp} {as as0 as1 : List Addr} {D : Ends} {σ : L2.St} {i : Nat} {a b c : Bool}
/-! ### truth -/
theorem et_test (h : Ev K te env S (.d (.bl b)) S1) : EvT K (tTest te) env S b S1 := fun B H as σ c g Q q => h B H as σ c g _ fun v B1 H1 c1 e1 r1 => by
  cases r1; exact ⟨b, rfl, q B1 H1 c1 e1⟩
theorem et_B (h : Ev K te env S (.d (.bl b)) S1) : EvT K (tB te) env S b S1 := fun B H as σ c g Q q => h B H as σ c g _ fun v B1 H1 c1 e1 r1 => by
  cases r1; exact ⟨b, rfl, q B1 H1 c1 e1⟩
theorem et_yes : EvT K tYes env S true S := fun B H as σ c g Q q => q B H c Evo.refl
theorem et_and (h1 : EvT K tt env S a S1) (h2 : a = true → EvT K tu env S1 b S2) (h3 : a = false → S2 = S1 ∧ b = false) : EvT K (tAnd tt tu) env S b S2 := fun B H as σ c g Q q =>
  h1 B H as σ c g _ fun B1 H1 c1 e1 => by
    cases a with
    | true => exact h2 rfl B1 H1 as σ c1 (g.mono e1.ex) Q fun B2 H2 c2 e2 => q B2 H2 c2 (e1.trans e2)
    | false =>
      obtain ⟨e2, e3⟩ := h3 rfl
      subst e2 e3
      exact q B1 H1 c1 e1
theorem et_or (h1 : EvT K tt env S a S1) (h2 : a = false → EvT K tu env S1 b S2) (h3 : a = true → S2 = S1 ∧ b = true) : EvT K (tOr tt tu) env S b S2 := fun B H as σ c g Q q =>
  h1 B H as σ c g _ fun B1 H1 c1 e1 => by
    cases a with
    | false => exact h2 rfl B1 H1 as σ c1 (g.mono e1.ex) Q fun B2 H2 c2 e2 => q B2 H2 c2 (e1.trans e2)
    | true =>
      obtain ⟨e2, e3⟩ := h3 rfl
      subst e2 e3
      exact q B1 H1 c1 e1
/-- both without change -/
theorem et_andP (h1 : EvT K tt env S a S) (h2 : a = true → EvT K tu env S b S) : EvT K (tAnd tt tu) env S (a && b) S := by
  cases a with
  | true => exact et_and h1 (fun _ => by simpa using h2 rfl) (fun h => by cases h)
  | false => exact et_and h1 (fun h => by cases h) (fun _ => ⟨rfl, rfl⟩)
theorem et_orP (h1 : EvT K tt env S a S) (h2 : a = false → EvT K tu env S b S) : EvT K (tOr tt tu) env S (a || b) S := by
  cases a with
  | false => exact et_or h1 (fun _ => by simpa using h2 rfl) (fun h => by cases h)
  | true => exact et_or h1 (fun h => by cases h) (fun _ => ⟨rfl, rfl⟩)
theorem et_not (h1 : EvT K tt env S a S1) : EvT K (tNot tt) env S (!a) S1 := fun B H as σ c g Q q => h1 B H as σ c g _ fun B1 H1 c1 e1 => q B1 H1 c1 e1
theorem ev_andV (h1 : Ev K ta env S (.d (.bl a)) S) (h2 : a = true → Ev K tb env S (.d (.bl b)) S) : Ev K (tAndV ta tb) env S (.d (.bl (a && b))) S := fun B H as σ c g Q q =>
  h1 B H as σ c g _ fun v B1 H1 c1 e1 r1 => by
    cases r1
    refine ⟨a, rfl, ?_⟩
    cases a with
    | true => exact h2 rfl B1 H1 as σ c1 (g.mono e1.ex) Q fun v B2 H2 c2 e2 r2 => q v B2 H2 c2 (e1.trans e2) r2
    | false => exact q _ B1 H1 c1 e1 (.bl false)
theorem ev_orV (h1 : Ev K ta env S (.d (.bl a)) S) (h2 : a = false → Ev K tb env S (.d (.bl b)) S) : Ev K (tOrV ta tb) env S (.d (.bl (a || b))) S := fun B H as σ c g Q q =>
  h1 B H as σ c g _ fun v B1 H1 c1 e1 r1 => by
    cases r1
    refine ⟨a, rfl, ?_⟩
    cases a with
    | false => exact h2 rfl B1 H1 as σ c1 (g.mono e1.ex) Q fun v B2 H2 c2 e2 r2 => q v B2 H2 c2 (e1.trans e2) r2
    | true => exact q _ B1 H1 c1 e1 (.bl true)
theorem ev_notV (h1 : Ev K ta env S (.d (.bl a)) S1) : Ev K (tNotV ta) env S (.d (.bl (!a))) S1 := fun B H as σ c g Q q =>
  h1 B H as σ c g _ fun v B1 H1 c1 e1 r1 => by
    cases r1
    exact ⟨a, rfl, q _ B1 H1 c1 e1 (.bl _)⟩
theorem ev_if (h : EvT K tt env S b S1) (h1 : b = true → Ev K ta env S1 x S2) (h2 : b = false → Ev K tb env S1 x S2) : Ev K (tIf tt ta tb) env S x S2 := fun B H as σ c g Q q =>
  h B H as σ c g _ fun B1 H1 c1 e1 => by
    cases b with
    | true => exact h1 rfl B1 H1 as σ c1 (g.mono e1.ex) Q fun v B2 H2 c2 e2 r2 => q v B2 H2 c2 (e1.trans e2) r2
    | false => exact h2 rfl B1 H1 as σ c1 (g.mono e1.ex) Q fun v B2 H2 c2 e2 r2 => q v B2 H2 c2 (e1.trans e2) r2
/-- a op b op' c -/
theorem ev_chain (h1 : Ev K ta env S x S1) (h2 : Ev K tb env S1 y S2) (hr : Op2 K r x y S2 (.bl a)) (h3 : a = true → Ev K tc env S2 z S2) (hr' : a = true → Op2 K r' y z S2 (.bl b)) : Ev K (tChain r r' ta tb tc) env S (.d (.bl (a && b))) S2 := fun B H as σ c g Q q =>
  h1 B H as σ c g _ fun v B1 H1 c1 e1 r1 => h2 B1 H1 as σ c1 (g.mono e1.ex) _ fun w B2 H2 c2 e2 r2 => hr B2 H2 as v w c2 (r1.mono e2.ex) r2 _ fun u B3 H3 c3 e3 r3 => by
    cases r3
    refine ⟨a, rfl, ?_⟩
    have e03 := (e1.trans e2).trans e3
    cases a with
    | true => exact h3 rfl B3 H3 as σ c3 (g.mono e03.ex) _ fun w' B4 H4 c4 e4 r4 => hr' rfl B4 H4 as w w' c4 ((r2.mono e3.ex).mono e4.ex) r4 Q fun u B5 H5 c5 e5 r5 => q u B5 H5 c5 ((e03.trans e4).trans e5) r5
    | false => exact q _ B3 H3 c3 e03 (.bl false)
/-- truth of a list, a tuple (if xs:) -/
def tTru (K : PySem.W.Frag) (ta : TE) : TT := fun σ H Q => ta σ H fun x H' => ∃ k, TruV K x H' k ∧ Q k H'
theorem pt_tru {X : Cx} {e : Expr} {ta : TE} (ha : PE X e ta) (he : ∀ whole, isTrue e X.env whole = (do let v ← whole; standAt e.pos; holding [v] (truthy v)) := by intro _; rfl) : PT X e (tTru X.K ta) := pt_truth ha he
theorem isEmpty_reps {vs : List V} {ds : List Dat} (r : Reps K B vs ds) : vs.isEmpty = ds.isEmpty := by cases r <;> rfl
theorem et_seq (h : Ev K ta env S x S1) (hs : Seq S1 x ds) : EvT K (tTru K ta) env S (!ds.isEmpty) S1 := fun B H as σ c g Q q => h B H as σ c g _ fun v B1 H1 c1 e1 r1 => by
  obtain ⟨a, k, vs, rfl, hq, hr⟩ := hs.read c1 r1
  refine ⟨!ds.isEmpty, ?_, q B1 H1 c1 e1⟩
  rw [← isEmpty_reps hr]
  cases k with
  | true => exact .inl ⟨vs, hq, rfl⟩
  | false => exact .inr (.inl ⟨vs, hq, rfl⟩)
theorem et_bl (h : Ev K ta env S (.d (.bl b)) S1) : EvT K (tTru K ta) env S b S1 := fun B H as σ c g Q q => h B H as σ c g _ fun v B1 H1 c1 e1 r1 => by
  cases r1; exact ⟨b, rfl, q B1 H1 c1 e1⟩

/-! ### calls of built-ins by values -/
theorem ev_cb {r : List V → Hp → VK → Prop} {xs : List Sl} (h : EvA K tA env S xs S1) (hc : CallD K r xs S1 d S2) : Ev K (tCB r tA) env S (.d d) S2 := fun B H as σ c g Q q =>
  h B H as σ c g _ fun vs B1 H1 c1 e1 r1 => hc B1 H1 as vs c1 r1 Q fun u B2 H2 c2 e2 r2 => q u B2 H2 c2 (e1.trans e2) r2
def rLenD (K : PySem.W.Frag) : List V → Hp → VK → Prop := fun xs H Q => ∃ p ys, xs = [.ref p] ∧ (SqL K H p ys ∨ SqT K H p ys) ∧ Q (.int ys.length) H
theorem call_lenD {X : Cx} : CallR X (.builtin "len") (rLenD X.K) := call_len_seq
theorem cd_len (h : Seq S x ds) : CallD K (rLenD K) [x] S (.int ds.length) S := fun B H as vs c r Q q => by
  cases r with
  | cons r1 rr =>
    cases rr
    obtain ⟨a, k, ws, rfl, hq, hr⟩ := h.read c r1
    exact ⟨a, ws, rfl, sq_or hq, by rw [hr.length]; exact q _ B H c Evo.refl (.int _)⟩
theorem cd_lenS {ns : List Int} : CallD K (rLenD K) [.d (.scr ns)] S (.int ns.length) S := fun B H as vs c r Q q => by
  cases r with
  | cons r1 rr =>
    cases rr
    cases r1 with
    | scr h =>
      refine ⟨_, _, rfl, .inl (Evl.ex_l c.ex h), ?_⟩
      rw [List.length_map]
      exact q _ B H c Evo.refl (.int _)
theorem cd_sum {ns : List Int} (h : SeqL S x (ns.map Dat.int)) : CallD K (rSum K) [x] S (.int ns.sum) S := fun B H as vs c r Q q => by
  cases r with
  | cons r1 rr =>
    cases rr
    obtain ⟨a, ws, rfl, hq, hr⟩ := h.read c r1
    rw [hr.ints] at hq
    exact ⟨a, ns, rfl, Evl.sq_of hq, q _ B H c Evo.refl (.int _)⟩
theorem cd_all {bs : List Bool} (h : SeqL S x (bs.map Dat.bl)) : CallD K (rAll K) [x] S (.bl (bs.all id)) S := fun B H as vs c r Q q => by
  cases r with
  | cons r1 rr =>
    cases rr
    obtain ⟨a, ws, rfl, hq, hr⟩ := h.read c r1
    rw [hr.bls] at hq
    exact ⟨a, bs, rfl, Evl.sq_of hq, q _ B H c Evo.refl (.bl _)⟩
theorem cd_any {bs : List Bool} (h : SeqL S x (bs.map Dat.bl)) : CallD K (rAny K) [x] S (.bl (bs.any id)) S := fun B H as vs c r Q q => by
  cases r with
  | cons r1 rr =>
    cases rr
    obtain ⟨a, ws, rfl, hq, hr⟩ := h.read c r1
    rw [hr.bls] at hq
    exact ⟨a, bs, rfl, Evl.sq_of hq, q _ B H c Evo.refl (.bl _)⟩
def rTupD (K : PySem.W.Frag) : List V → Hp → VK → Prop := fun xs H Q => ∃ p ys, xs = [.ref p] ∧ ((SqL K H p ys ∧ ∀ l, H l = none → Q (.ref l) (upd H l (.tup ys))) ∨ (SqT K H p ys ∧ Q (.ref p) H))
theorem call_tupD {X : Cx} (hc : X.calm = true) : CallR X (.type "tuple") (rTupD X.K) := by first | exact call_tuple_of | exact call_tuple_of hc
theorem cd_tup (h : SeqL S x ds) : CallD K (rTupD K) [x] S (.tup ds) S := fun B H as vs c r Q q => by
  cases r with
  | cons r1 rr =>
    cases rr
    obtain ⟨a, ws, rfl, hq, hr⟩ := h.read c r1
    exact ⟨a, ws, rfl, .inl ⟨Evl.sq_of hq, fun l hl => q _ (upd B l (.tup ws)) _ (c.new hl) (Evo.new c hl) (.tup (Evl.st_of upd_same) (hr.mono (Evl.Ex.new (c.Bnone hl))))⟩⟩
def rLstD (K : PySem.W.Frag) : List V → Hp → VK → Prop := fun xs H Q => ∃ p ys, xs = [.ref p] ∧ (SqL K H p ys ∨ SqT K H p ys) ∧ ∀ l, H l = none → Q (.ref l) (upd H l (.lst ys))
theorem call_lstD {X : Cx} (hc : X.calm = true) : CallR X (.type "list") (rLstD X.K) := by first | exact call_list_of | exact call_list_of hc
theorem en_list (h : EvA K tA env S [x] S1) (hs : Seq S1 x ds) : EvN K (tCB (rLstD K) tA) env S ds S1 := fun B H as σ c g Q q =>
  h B H as σ c g _ fun vs B1 H1 c1 e1 r1 => by
    cases r1 with
    | cons r1 rr =>
      cases rr
      obtain ⟨a, k, ws, rfl, hq, hr⟩ := hs.read c1 r1
      exact ⟨a, ws, rfl, sq_or hq, fun l hl => evn_new c c1 e1 hl hr q⟩
def rMax2D : List V → Hp → VK → Prop := fun xs H Q => ∃ i j, xs = [.int i, .int j] ∧ Q (.int (if j > i then j else i)) H
theorem call_max2D {X : Cx} (hc : X.calm = true) : CallR X (.builtin "max") rMax2D := call_max2 hc
theorem cd_max2 {i j : Int} : CallD K rMax2D [.d (.int i), .d (.int j)] S (.int (max i j)) S := fun B H as vs c r Q q => by
  cases r with
  | cons r1 rr =>
    cases rr with
    | cons r2 rr =>
      cases rr; cases r1; cases r2
      refine ⟨i, j, rfl, ?_⟩
      have e : (if j > i then j else i) = max i j := by rw [Int.max_def]; split <;> split <;> omega
      rw [e]
      exact q _ B H c Evo.refl (.int _)
def rMin2D : List V → Hp → VK → Prop := fun xs H Q => ∃ i j, xs = [.int i, .int j] ∧ Q (.int (if j < i then j else i)) H
theorem call_min2D {X : Cx} (hc : X.calm = true) : CallR X (.builtin "min") rMin2D := call_min2 hc
theorem cd_min2 {i j : Int} : CallD K rMin2D [.d (.int i), .d (.int j)] S (.int (min i j)) S := fun B H as vs c r Q q => by
  cases r with
  | cons r1 rr =>
    cases rr with
    | cons r2 rr =>
      cases rr; cases r1; cases r2
      refine ⟨i, j, rfl, ?_⟩
      have e : (if j < i then j else i) = min i j := by rw [Int.min_def]; split <;> split <;> omega
      rw [e]
      exact q _ B H c Evo.refl (.int _)
def rAbsD : List V → Hp → VK → Prop := fun xs H Q => ∃ i, xs = [.int i] ∧ Q (.int (if i < 0 then -i else i)) H
theorem call_absD {X : Cx} : CallR X (.builtin "abs") rAbsD := call_abs
theorem cd_abs {i : Int} : CallD K rAbsD [.d (.int i)] S (.int (i.natAbs : Int)) S := fun B H as vs c r Q q => by
  cases r with
  | cons r1 rr =>
    cases rr; cases r1
    refine ⟨i, rfl, ?_⟩
    have e : (if i < 0 then -i else i) = (i.natAbs : Int) := by split <;> omega
    rw [e]
    exact q _ B H c Evo.refl (.int _)
def rIntD : List V → Hp → VK → Prop := fun xs H Q => (∃ i, xs = [.int i] ∧ Q (.int i) H) ∨ ∃ b, xs = [.bl b] ∧ Q (.int (b2i b)) H
theorem call_intD {X : Cx} : CallR X (.type "int") rIntD := call_int1
theorem cd_int {i : Int} : CallD K rIntD [.d (.int i)] S (.int i) S := fun B H as vs c r Q q => by
  cases r with
  | cons r1 rr =>
    cases rr; cases r1
    exact .inl ⟨i, rfl, q _ B H c Evo.refl (.int _)⟩
theorem cd_intB : CallD K rIntD [.d (.bl b)] S (.int (b2i b)) S := fun B H as vs c r Q q => by
  cases r with
  | cons r1 rr =>
    cases rr; cases r1
    exact .inr ⟨b, rfl, q _ B H c Evo.refl (.int _)⟩
end
end RW

set_option Elab.async false
set_option linter.all false
set_option maxRecDepth 100000
set_option maxHeartbeats 4000000
namespace RW
open PySem PySem.Spec PyProof.Rows L2
open Evl (Ex)
section
variable {K : PySem.W.Frag} {n : Nat} {te ta tb tc to ti : TE} {tt tu : TT} {tA tR : TA} {env env' : Env1} {S S1 S2 S3 : List Dat} {x y z : Sl} {d e : Dat} {ds es : List Dat} {r r' : R2} {P P' : Post} {t u : TS}
  {B B0 B1 B' H H0 H1 H' : Hp} {as as0 as1 : List Addr} {D : Ends} {σ : L2.St} {i : Nat} {a b c : Bool}
/-! ### + and slices -/
theorem reps_nil {vs : List V} : Reps K B vs [] → vs = [] := fun h => by cases h; rfl
theorem reps_ne {vs : List V} (r : Reps K B vs ds) : vs = [] ↔ ds = [] := by cases r <;> simp
theorem op2_catT (hl : ds.length + es.length ≤ sizeLine) : Op2 K (rCatA K) (.d (.tup ds)) (.d (.tup es)) S (.tup (ds ++ es)) := fun B H as v w c h1 h2 Q q => by
  cases h1 with
  | tup h1 r1 =>
    cases h2 with
    | tup h2 r2 =>
      rename_i a1 xs a2 ys
      refine ⟨a1, a2, xs, ys, rfl, rfl, Evl.ex_t c.ex h1, Evl.ex_t c.ex h2, by rw [r1.length, r2.length]; exact hl, fun e => ?_, fun _ e => ?_, fun _ _ p hp => ?_⟩
      · have : ds = [] := (reps_ne r1).mp e
        subst this
        exact q _ B H c Evo.refl (.tup h2 r2)
      · have : es = [] := (reps_ne r2).mp e
        subst this
        rw [List.append_nil] at q
        exact q _ B H c Evo.refl (.tup h1 r1)
      · exact q _ (upd B p _) _ (c.new hp) (Evo.new c hp) (.tup (Evl.st_of upd_same) ((r1.append r2).mono (Evl.Ex.new (c.Bnone hp))))
/-- a binary operation that makes a new list -/
theorem en_cat {ds es : List Dat} (ha : Ev K ta env S x S1) (hb : Ev K tb env S1 y S2) (hx : SeqL S2 x ds) (hy : SeqL S2 y es) (hl : ds.length + es.length ≤ sizeLine) : EvN K (tOp rCat ta tb) env S (ds ++ es) S2 := fun B H as σ c g Q q =>
  ha B H as σ c g _ fun v B1 H1 c1 e1 r1 => hb B1 H1 as σ c1 (g.mono e1.ex) _ fun w B2 H2 c2 e2 r2 => by
    obtain ⟨a1, xs, rfl, h1, q1⟩ := hx.read c2 (r1.mono e2.ex)
    obtain ⟨a2, ys, rfl, h2, q2⟩ := hy.read c2 r2
    exact ⟨a1, a2, xs, ys, rfl, rfl, h1, h2, by rw [q1.length, q2.length]; exact hl, fun p hp => evn_new c c2 (e1.trans e2) hp (q1.append q2) q⟩
theorem reps_rep {vs : List V} (r : Reps K B vs ds) : ∀ k : Nat, Reps K B (List.replicate k vs).flatten (List.replicate k ds).flatten
  | 0 => .nil
  | k + 1 => by
    rw [List.replicate_succ, List.replicate_succ, List.flatten_cons, List.flatten_cons]
    exact r.append (reps_rep r k)
theorem en_rep {ds : List Dat} {k : Int} (ha : Ev K ta env S x S1) (hb : Ev K tb env S1 (.d (.int k)) S2) (hx : SeqL S2 x ds) (hk : -(2 ^ 63) ≤ k ∧ k < 2 ^ 63) (hl : ds.length * k.toNat ≤ sizeLine) : EvN K (tOp rRep ta tb) env S (List.replicate k.toNat ds).flatten S2 := fun B H as σ c g Q q =>
  ha B H as σ c g _ fun v B1 H1 c1 e1 r1 => hb B1 H1 as σ c1 (g.mono e1.ex) _ fun w B2 H2 c2 e2 r2 => by
    obtain ⟨a1, xs, rfl, h1, q1⟩ := hx.read c2 (r1.mono e2.ex)
    cases r2
    exact ⟨a1, k, xs, rfl, rfl, h1, hk.1, hk.2, by rw [q1.length]; exact hl, fun p hp => evn_new c c2 (e1.trans e2) hp (reps_rep q1 _) q⟩
def cutD (xs : List Dat) (lo hi : Option Int) : List Dat := (xs.drop (HT.sIx xs.length 0 lo)).take (HT.sIx xs.length xs.length hi - HT.sIx xs.length 0 lo)
theorem reps_cut {vs : List V} (r : Reps K B vs ds) (lo hi : Option Int) : Reps K B (cutV vs lo hi) (cutD ds lo hi) := by
  unfold cutV cutD
  rw [r.length]
  exact (r.drop _).take _
def EvO (K : PySem.W.Frag) (to : TO) (env : Env1) (S : List Dat) (o : Option Int) (S' : List Dat) : Prop :=
  ∀ B H as σ, Ok K B H as S → EnvR K B as σ env → ∀ Q : Option Int → Hp → Prop, (∀ B' H', Ok K B' H' as S' → Evo B H as B' H' → Q o H') → to σ H Q
theorem eo_none : EvO K tNoPart env S none S := fun B H as σ c g Q q => q B H c Evo.refl
theorem eo_some {k : Int} (h : Ev K te env S (.d (.int k)) S1) : EvO K (tPart te) env S (some k) S1 := fun B H as σ c g Q q => h B H as σ c g _ fun v B1 H1 c1 e1 r1 => by
  cases r1; exact ⟨k, rfl, q B1 H1 c1 e1⟩
theorem cutD_whole {lo hi : Option Int} (h : HT.sIx ds.length 0 lo = 0 ∧ HT.sIx ds.length ds.length hi = ds.length) : cutD ds lo hi = ds := by
  unfold cutD
  rw [h.1, h.2, List.drop_zero, Nat.sub_zero, List.take_length]
/-- t[lo:hi], a tuple -/
theorem ev_slT {tl th : TO} {lo hi : Option Int} (h : Ev K te env S (.d (.tup ds)) S1) (hl : EvO K tl env S1 lo S2) (hh : EvO K th env S2 hi S3) : Ev K (tSl (rSlA K) te tl th) env S (.d (.tup (cutD ds lo hi))) S3 := fun B H as σ c g Q q =>
  h B H as σ c g _ fun v B1 H1 c1 e1 r1 => hl B1 H1 as σ c1 (g.mono e1.ex) _ fun B2 H2 c2 e2 => hh B2 H2 as σ c2 (g.mono (e1.trans e2).ex) _ fun B3 H3 c3 e3 => by
    have r3 : Rep K B3 v (.tup ds) := Rep.mono (e2.trans e3).ex r1
    have e03 := (e1.trans e2).trans e3
    cases r3 with
    | tup h1 r1 =>
      refine ⟨_, _, rfl, Evl.ex_t c3.ex h1, fun hw => ?_, fun hw p hp => ?_⟩
      · rw [r1.length] at hw
        rw [cutD_whole hw] at q
        exact q _ B3 H3 c3 e03 (.tup h1 r1)
      · exact q _ (upd B3 p _) _ (c3.new hp) (e03.trans (Evo.new c3 hp)) (.tup (Evl.st_of upd_same) ((reps_cut r1 lo hi).mono (Evl.Ex.new (c3.Bnone hp))))
/-- xs[lo:hi], a list -/
theorem en_slL {tl th : TO} {lo hi : Option Int} (h : Ev K te env S x S1) (hl : EvO K tl env S1 lo S2) (hh : EvO K th env S2 hi S3) (hx : SeqL S3 x ds) : EvN K (tSl (rSlL K) te tl th) env S (cutD ds lo hi) S3 := fun B H as σ c g Q q =>
  h B H as σ c g _ fun v B1 H1 c1 e1 r1 => hl B1 H1 as σ c1 (g.mono e1.ex) _ fun B2 H2 c2 e2 => hh B2 H2 as σ c2 (g.mono (e1.trans e2).ex) _ fun B3 H3 c3 e3 => by
    obtain ⟨a1, xs, rfl, h1, q1⟩ := hx.read c3 (r1.mono (e2.trans e3).ex)
    exact ⟨a1, xs, rfl, Evl.sq_of h1, fun p hp => evn_new c c3 ((e1.trans e2).trans e3) hp (reps_cut q1 lo hi) q⟩

/-! ### what is walked -/
structure WalkD (K : PySem.W.Frag) (B : Hp) (J : It) (G : List Addr → List Dat → Prop) (ds : List Dat) : Prop where
  go : ∀ B2 H2 as2 S2 i, Ex B B2 → Ok K B2 H2 as2 S2 → G as2 S2 → i < ds.length → J.go i H2
  yld : ∀ B2 H2 as2 S2 i x H3, Ex B B2 → Ok K B2 H2 as2 S2 → G as2 S2 → i < ds.length → J.yld i H2 x H3 → ∃ B3 d, Ok K B3 H3 as2 S2 ∧ Evo B2 H2 as2 B3 H3 ∧ ds[i]? = some d ∧ Rep K B3 x d
  stop : ∀ B2 H2 as2 S2, Ex B B2 → Ok K B2 H2 as2 S2 → G as2 S2 → J.stop ds.length H2
def IterD (K : PySem.W.Frag) (wi : TI) (env : Env1) (S : List Dat) (G : List Addr → List Addr → List Dat → Prop) (ds : List Dat) (S1 : List Dat) : Prop :=
  ∀ B H as σ, Ok K B H as S → EnvR K B as σ env → ∀ R : It → Hp → Prop, (∀ J B1 H1, Ok K B1 H1 as S1 → Evo B H as B1 H1 → WalkD K B1 J (G as) ds → R J H1) → wi σ H R
/-- nothing is asked: what is walked is known -/
def G0 : List Addr → List Addr → List Dat → Prop := fun _ _ _ => True
/-- the k-th changed thing, left as it is while it is walked -/
def Gc (k : Nat) (ds : List Dat) : List Addr → List Addr → List Dat → Prop := fun as as2 S2 => as2[k]? = as[k]? ∧ S2[k]? = some (.lst ds)
theorem walk_known {a : Addr} {vs : List V} {k : Bool} (hq : Sq K k B a vs) (r : Reps K B vs ds) (G : List Addr → List Dat → Prop) : WalkD K B (ItS K k a) G ds where
  go := fun B2 H2 as2 S2 i e c _ hi => by
    obtain ⟨v, hv, _⟩ := r.get (List.getElem?_eq_getElem hi)
    cases k with
    | true => exact ⟨vs, v, Evl.ex_l c.ex (Evl.ex_l e hq), hv⟩
    | false => exact ⟨vs, v, Evl.ex_t c.ex (Evl.ex_t e hq), hv⟩
  yld := fun B2 H2 as2 S2 i x H3 e c _ hi y => by
    obtain ⟨v, hv, rv⟩ := r.get (List.getElem?_eq_getElem hi)
    cases k with
    | true =>
      obtain ⟨rfl, y⟩ := y
      have := y vs (Evl.ex_l c.ex (Evl.ex_l e hq))
      rw [hv] at this
      cases this
      exact ⟨B2, _, c, Evo.refl, List.getElem?_eq_getElem hi, rv.mono e⟩
    | false =>
      obtain ⟨rfl, y⟩ := y
      have := y vs (Evl.ex_t c.ex (Evl.ex_t e hq))
      rw [hv] at this
      cases this
      exact ⟨B2, _, c, Evo.refl, List.getElem?_eq_getElem hi, rv.mono e⟩
  stop := fun B2 H2 as2 S2 e c _ => by
    cases k with
    | true => exact ⟨vs, Evl.ex_l c.ex (Evl.ex_l e hq), by rw [r.length]; exact Nat.le_refl _⟩
    | false => exact ⟨vs, Evl.ex_t c.ex (Evl.ex_t e hq), by rw [r.length]; exact Nat.le_refl _⟩
theorem it_lst (h : Ev K te env S (.d (.lst ds)) S1) : IterD K (iSeq K te) env S G0 ds S1 := fun B H as σ c g R q => h B H as σ c g _ fun v B1 H1 c1 e1 r1 => by
  cases r1 with
  | lst h r => exact ⟨_, true, rfl, ⟨_, Evl.sq_of (c1.ex _ _ h)⟩, q _ B1 H1 c1 e1 (walk_known (k := true) (Evl.sq_of h) r _)⟩
theorem it_tup (h : Ev K te env S (.d (.tup ds)) S1) : IterD K (iSeq K te) env S G0 ds S1 := fun B H as σ c g R q => h B H as σ c g _ fun v B1 H1 c1 e1 r1 => by
  cases r1 with
  | tup h r => exact ⟨_, false, rfl, ⟨_, Evl.ex_t c1.ex h⟩, q _ B1 H1 c1 e1 (walk_known (k := false) h r _)⟩
theorem it_cell {k : Nat} (h : Ev K te env S (.c k) S1) (hk : S1[k]? = some (.lst ds)) : IterD K (iSeq K te) env S (Gc k ds) ds S1 := fun B H as σ c g R q => h B H as σ c g _ fun v B1 H1 c1 e1 r1 => by
  obtain ⟨a, ha, rfl⟩ := r1
  obtain ⟨_, q0⟩ := c1.cells k a _ ha hk
  obtain ⟨vs, hv, rv⟩ := q0.lst
  have rd : ∀ {B2 H2 as2 S2}, Ok K B2 H2 as2 S2 → Gc k ds as as2 S2 → ∃ ws, H2 a = some (.lst ws) ∧ Reps K B2 ws ds := fun {B2 H2 as2 S2} c2 g2 => by
    obtain ⟨g1, g2⟩ := g2
    obtain ⟨_, q0⟩ := c2.cells k a _ (g1.trans ha) g2
    obtain ⟨ws, hw, rw'⟩ := q0.lst
    exact ⟨ws, hw, rw'⟩
  refine ⟨a, true, rfl, ⟨vs, Evl.sq_of hv⟩, q _ B1 H1 c1 e1 ⟨fun B2 H2 as2 S2 i e c2 g2 hi => ?_, fun B2 H2 as2 S2 i x H3 e c2 g2 hi y => ?_, fun B2 H2 as2 S2 e c2 g2 => ?_⟩⟩
  · obtain ⟨ws, hw, rw'⟩ := rd c2 g2
    obtain ⟨v, hv, _⟩ := rw'.get (List.getElem?_eq_getElem hi)
    exact ⟨ws, v, Evl.sq_of hw, hv⟩
  · obtain ⟨ws, hw, rw'⟩ := rd c2 g2
    obtain ⟨v, hv, rv⟩ := rw'.get (List.getElem?_eq_getElem hi)
    obtain ⟨rfl, y⟩ := y
    have := y ws (Evl.sq_of hw)
    rw [hv] at this
    cases this
    exact ⟨B2, _, c2, Evo.refl, List.getElem?_eq_getElem hi, rv⟩
  · obtain ⟨ws, hw, rw'⟩ := rd c2 g2
    exact ⟨ws, Evl.sq_of hw, by rw [rw'.length]; exact Nat.le_refl _⟩
theorem it_script {ns : List Int} (h : Ev K te env S (.d (.scr ns)) S1) : IterD K (iSeq K te) env S G0 (ns.map Dat.int) S1 := fun B H as σ c g R q => h B H as σ c g _ fun v B1 H1 c1 e1 r1 => by
  cases r1 with
  | scr h =>
    have rr : ∀ ns : List Int, Reps K B1 (ns.map V.int) (ns.map Dat.int) := fun ns => by
      induction ns with
      | nil => exact .nil
      | cons n ns ih => exact .cons (.int n) ih
    exact ⟨_, true, rfl, ⟨_, Evl.ex_l c1.ex h⟩, q _ B1 H1 c1 e1 (walk_known (k := true) h (rr ns) _)⟩
/-- range(n), range(lo, hi) -/
def rng (lo : Int) (n : Nat) : List Dat := (List.range n).map fun i => Dat.int (lo + (i : Nat))
theorem rng_get {lo : Int} {n i : Nat} (h : i < n) : (rng lo n)[i]? = some (.int (lo + (i : Nat))) := by
  unfold rng
  rw [List.getElem?_map, List.getElem?_range h]
  rfl
theorem rng_len {lo : Int} {n : Nat} : (rng lo n).length = n := by unfold rng; rw [List.length_map, List.length_range]
theorem walk_rng {lo : Int} {n : Nat} {G : List Addr → List Dat → Prop} : WalkD K B (Itr lo n) G (rng lo n) where
  go := fun B2 H2 as2 S2 i _ _ _ hi => by rw [rng_len] at hi; exact hi
  yld := fun B2 H2 as2 S2 i x H3 _ c _ hi y => by
    rw [rng_len] at hi
    obtain ⟨rfl, rfl⟩ := y
    exact ⟨B2, _, c, Evo.refl, rng_get hi, .int _⟩
  stop := fun B2 H2 as2 S2 _ _ _ => by rw [rng_len]; exact Nat.le_refl _
theorem it_range1 {j : Int} (h : EvA K tA env S [.d (.int j)] S1) (hj : -(2 ^ 62) ≤ j ∧ j < 2 ^ 62) : IterD K (iRng1 tA) env S G0 (rng 0 j.toNat) S1 := fun B H as σ c g R q => h B H as σ c g _ fun vs B1 H1 c1 e1 r1 => by
  cases r1 with
  | cons r1 rr =>
    cases rr; cases r1
    exact ⟨j, rfl, hj.1, hj.2, q _ B1 H1 c1 e1 walk_rng⟩
theorem it_range2 {i j : Int} (h : EvA K tA env S [.d (.int i), .d (.int j)] S1) (hi : -(2 ^ 62) ≤ i ∧ i < 2 ^ 62) (hj : -(2 ^ 62) ≤ j ∧ j < 2 ^ 62) : IterD K (iRng2 tA) env S G0 (rng i (j - i).toNat) S1 := fun B H as σ c g R q => h B H as σ c g _ fun vs B1 H1 c1 e1 r1 => by
  cases r1 with
  | cons r1 rr =>
    cases rr with
    | cons r2 rr =>
      cases rr; cases r1; cases r2
      exact ⟨i, j, rfl, ⟨hi.1, hi.2, hj.1, hj.2⟩, q _ B1 H1 c1 e1 walk_rng⟩
/-- zip -/
def zipD (ds es : List Dat) : List Dat := List.zipWith (fun x y => Dat.tup [x, y]) ds es
theorem zipD_len : (zipD ds es).length = min ds.length es.length := by unfold zipD; rw [List.length_zipWith]
theorem zipD_get {i : Nat} {d e : Dat} (h1 : ds[i]? = some d) (h2 : es[i]? = some e) : (zipD ds es)[i]? = some (.tup [d, e]) := by
  unfold zipD
  rw [List.getElem?_zipWith, h1, h2]
/-- a sequence that stays: known data, or a changed thing that no one changes now -/
def GS (x : Sl) (ds : List Dat) : List Addr → List Addr → List Dat → Prop := match x with
  | .d _ => fun _ _ _ => True
  | .c k => fun as as2 S2 => as2[k]? = as[k]? ∧ LCell S2 k ds
theorem seq_stays {v : V} (c : Ok K B H as S) (hx : Seq S x ds) (r : RepS K B as v x) : ∃ a k, v = .ref a ∧ (∃ vs, Sq K k H a vs) ∧ ∀ B2 H2 as2 S2, Ex B B2 → Ok K B2 H2 as2 S2 → GS x ds as as2 S2 → ∃ ws, Sq K k H2 a ws ∧ Reps K B2 ws ds := by
  rcases hx with rfl | rfl | ⟨k, rfl, hk⟩
  · cases r with
    | lst h r => exact ⟨_, true, rfl, ⟨_, Evl.sq_of (c.ex _ _ h)⟩, fun B2 H2 as2 S2 e c2 _ => ⟨_, Evl.sq_of (c2.ex _ _ (e _ _ h)), r.mono e⟩⟩
  · cases r with
    | tup h r => exact ⟨_, false, rfl, ⟨_, Evl.ex_t c.ex h⟩, fun B2 H2 as2 S2 e c2 _ => ⟨_, Evl.ex_t c2.ex (Evl.ex_t e h), r.mono e⟩⟩
  · obtain ⟨a, ha, rfl⟩ := r
    obtain ⟨_, vs, hv, _⟩ := c.lcell ha hk
    refine ⟨a, true, rfl, ⟨vs, Evl.sq_of hv⟩, fun B2 H2 as2 S2 e c2 g2 => ?_⟩
    obtain ⟨g1, g2⟩ := g2
    obtain ⟨_, ws, hw, rw'⟩ := c2.lcell (g1.trans ha) g2
    exact ⟨ws, Evl.sq_of hw, rw'⟩
theorem sq_inj {k : Bool} {a : Addr} {xs ys : List V} (c : Ok K B H as S) (h1 : Sq K k H a xs) (h2 : Sq K k H a ys) (hk : ∀ o : Obj, K.lookup a = some o → False ∨ True) : True := trivial
theorem it_zip (h : EvA K tA env S [x, y] S1) (hx : Seq S1 x ds) (hy : Seq S1 y es) : IterD K (iZipG K tA) env S (fun as as2 S2 => GS x ds as as2 S2 ∧ GS y es as as2 S2) (zipD ds es) S1 := fun B H as σ c g R q => h B H as σ c g _ fun vs B1 H1 c1 e1 r1 => by
  cases r1 with
  | cons r1 rr =>
    cases rr with
    | cons r2 rr =>
      cases rr
      obtain ⟨a1, k1, rfl, ⟨w1, q1⟩, st1⟩ := seq_stays c1 hx r1
      obtain ⟨a2, k2, rfl, ⟨w2, q2⟩, st2⟩ := seq_stays c1 hy r2
      refine ⟨a1, a2, k1, k2, w1, w2, rfl, q1, q2, q _ B1 H1 c1 e1 ⟨fun B2 H2 as2 S2 i e c2 g2 hi => ?_, fun B2 H2 as2 S2 i x H3 e c2 g2 hi y => ?_, fun B2 H2 as2 S2 e c2 g2 => ?_⟩⟩
      · obtain ⟨u1, p1, rp1⟩ := st1 B2 H2 as2 S2 e c2 g2.1
        obtain ⟨u2, p2, rp2⟩ := st2 B2 H2 as2 S2 e c2 g2.2
        rw [zipD_len] at hi
        obtain ⟨v1, hv1, _⟩ := rp1.get (List.getElem?_eq_getElem (show i < ds.length by omega))
        obtain ⟨v2, hv2, _⟩ := rp2.get (List.getElem?_eq_getElem (show i < es.length by omega))
        exact ⟨u1, u2, v1, v2, p1, p2, hv1, hv2⟩
      · obtain ⟨u1, p1, rp1⟩ := st1 B2 H2 as2 S2 e c2 g2.1
        obtain ⟨u2, p2, rp2⟩ := st2 B2 H2 as2 S2 e c2 g2.2
        obtain ⟨T, v1, v2, rfl, hT, rfl, y1, y2⟩ := y
        obtain ⟨d1, hd1, r1⟩ := rp1.get' (y1 u1 p1)
        obtain ⟨d2, hd2, r2⟩ := rp2.get' (y2 u2 p2)
        have hB : Ex B2 (upd B2 T (.tup [v1, v2])) := Evl.Ex.new (c2.Bnone hT)
        exact ⟨upd B2 T (.tup [v1, v2]), .tup [d1, d2], c2.new hT, Evo.new c2 hT, zipD_get hd1 hd2, .tup (Evl.st_of upd_same) (.cons (r1.mono hB) (.cons (r2.mono hB) .nil))⟩
      · obtain ⟨u1, p1, rp1⟩ := st1 B2 H2 as2 S2 e c2 g2.1
        obtain ⟨u2, p2, rp2⟩ := st2 B2 H2 as2 S2 e c2 g2.2
        refine ⟨u1, u2, p1, p2, ?_, ?_, ?_⟩ <;> rw [zipD_len] <;> have := rp1.length <;> have := rp2.length <;> omega

/-! ### targets -/
def TgD (K : PySem.W.Frag) (g : TG) (d : Dat) (is : List Nat) (f : Env1 → Env1) : Prop :=
  ∀ B H as S σ env v, Ok K B H as S → EnvR K B as σ env → Rep K B v d → ∀ Q : L2.St → Hp → Prop, (∀ σ', EnvR K B as σ' (f env) → (∀ vs : List Nat, (∀ i ∈ is, i ∈ vs) → L2.wipe σ' vs = L2.wipe σ vs) → Q σ' H) → g v σ H Q
theorem set_comm_none {σ : L2.St} {i j : Nat} {x : Option V} (h : i ≠ j) : (σ.set i x).set j none = (σ.set j none).set i x := (List.set_comm _ _ h)
theorem wipe_set {σ : L2.St} {i : Nat} {x : Option V} : ∀ {vs : List Nat}, i ∈ vs → L2.wipe (σ.set i x) vs = L2.wipe σ vs
  | [], h => by cases h
  | v :: vs, h => by
    unfold L2.wipe
    by_cases hi : i ∈ vs
    · rw [wipe_set hi]
    · have hv : i = v := by
        rcases List.mem_cons.mp h with h | h
        · exact h
        · exact absurd h hi
      subst hv
      have key : ∀ ws : List Nat, i ∉ ws → L2.wipe (σ.set i x) ws = (L2.wipe σ ws).set i x := by
        intro ws
        induction ws with
        | nil => intro _; rfl
        | cons w ws ih =>
          intro hn
          unfold L2.wipe
          rw [ih (fun z => hn (List.mem_cons_of_mem _ z))]
          exact List.set_comm _ _ (fun z => hn (by rw [z]; exact List.mem_cons_self))
      rw [key vs hi, List.set_set]
theorem tg_name {j : Nat} : TgD K (gName j) d [j] (fun env => env.set j (some (.d d))) := fun B H as S σ env v c g r Q q =>
  q _ (EnvR.set (s := .d d) j g r) fun vs h => wipe_set (h j (by simp))
theorem tg_pair {j k : Nat} : TgD K (gTup K 2 (gCons (gName j) (gCons (gName k) gNil))) (.tup [d, e]) [j, k] (fun env => (env.set j (some (.d d))).set k (some (.d e))) := fun B H as S σ env v c g r Q q => by
  cases r with
  | tup h r =>
    cases r with
    | cons r1 r =>
      cases r with
      | cons r2 r =>
        cases r
        refine ⟨_, _, rfl, Evl.ex_t c.ex h, rfl, _, _, rfl, _, _, rfl, rfl, q _ (EnvR.set (s := .d e) k (EnvR.set (s := .d d) j g r1) r2) fun vs hv => ?_⟩
        rw [wipe_set (hv k (by simp)), wipe_set (hv j (by simp))]
theorem tg_three {j k l : Nat} {f : Dat} : TgD K (gTup K 3 (gCons (gName j) (gCons (gName k) (gCons (gName l) gNil)))) (.tup [d, e, f]) [j, k, l] (fun env => ((env.set j (some (.d d))).set k (some (.d e))).set l (some (.d f))) := fun B H as S σ env v c g r Q q => by
  cases r with
  | tup h r =>
    cases r with
    | cons r1 r =>
      cases r with
      | cons r2 r =>
        cases r with
        | cons r3 r =>
          cases r
          refine ⟨_, _, rfl, Evl.ex_t c.ex h, rfl, _, _, rfl, _, _, rfl, _, _, rfl, rfl, q _ (EnvR.set (s := .d f) l (EnvR.set (s := .d e) k (EnvR.set (s := .d d) j g r1) r2) r3) fun vs hv => ?_⟩
          rw [wipe_set (hv l (by simp)), wipe_set (hv k (by simp)), wipe_set (hv j (by simp))]
/-- (a, b) = e -/
theorem sp_asg {g : TG} {is : List Nat} {f : Env1 → Env1} (h : Ev K te env S (.d d) S1) (hg : TgD K g d is f) (k : SP K n u (f env) S1 P) : SP K n (tSeq (tAsg te g) u) env S P := fun B0 H0 as0 Bk B H as σ hl f0 c g0 D m =>
  h B H as σ c g0 _ fun v B1 H1 c1 e1 r1 => hg B1 H1 as S1 σ env v c1 (g0.mono e1.ex) r1 _ fun σ' g' _ => k B0 H0 as0 Bk B1 H1 as σ' hl (f0.step e1) c1 g' D m

/-! ### for -/
/-- env may know less -/
theorem sp_for {wi : TI} {g : TG} {tb : TS} {G : List Addr → List Addr → List Dat → Prop} (hw : IterD K wi env S G ds S1) (Inv : Nat → Env1 → List Dat → Prop) (h0 : Inv 0 env S1)
    (hG : ∀ i env' S' as as2, Inv i env' S' → as.length = S1.length → as2.length = S'.length → as2.take n = as.take n → G as as2 S')
    (hs : ∀ i d env' S', ds[i]? = some d → Inv i env' S' → ∃ is f, TgD K g d is f ∧ SP K n tb (f env') S' { P with nx := Inv (i + 1), ct := Inv (i + 1), bk := P.nx })
    (hd : ∀ env' S', Inv ds.length env' S' → P.nx env' S') : SP K n (tFor wi g tb) env S P := fun B0 H0 as0 Bk B H as σ hl f0 c g0 D m =>
  hw B H as σ c g0 _ fun J B1 H1 c1 e1 w => by
    subst hl
    have f1 := f0.step e1
    refine ⟨fun i mm σ' H' => mm = ds.length - i ∧ i ≤ ds.length ∧ ∃ env' S' B' as', Fr B0 H0 as0 B1 B' H' as' ∧ Ok K B' H' as' S' ∧ EnvR K B' as' σ' env' ∧ Inv i env' S', ⟨_, rfl, Nat.zero_le _, env, S1, B1, as, ⟨Evl.Ex.refl _, f1.base, f1.evo, f1.loc⟩, c1, g0.mono e1.ex, h0⟩, ?_⟩
    rintro i mm σ' H' ⟨rfl, hi, env', S', B', as', f', c', g', hinv⟩
    have ex' := f'.kn
    have hg := hG i env' S' as as' hinv c1.len c'.len (by rw [f'.base, f1.base])
    by_cases hlt : i < ds.length
    · refine .inr ⟨w.go B' H' as' S' i ex' c' hg hlt, fun σ2 H2 => ∃ env2 S2 B2 as2, Fr B0 H0 as0 B1 B2 H2 as2 ∧ Ok K B2 H2 as2 S2 ∧ EnvR K B2 as2 σ2 env2 ∧ Inv (i + 1) env2 S2, fun σ2 H2 hN => ⟨ds.length - (i + 1), by omega, rfl, hlt, hN⟩, fun x H2 hy => ?_⟩
      obtain ⟨B2, d, c2, e2, hd2, r2⟩ := w.yld B' H' as' S' i x H2 ex' c' hg hlt hy
      obtain ⟨is, f, tg, hbody⟩ := hs i d env' S' hd2 hinv
      refine tg B2 H2 as' S' σ' env' x c2 (g'.mono e2.ex) r2 _ fun σ3 g3 _ => ?_
      have f2 := f'.step e2
      refine hbody B0 H0 as0 B1 B2 H2 as' σ3 rfl f2 c2 g3 _ ⟨?_, m.rt, ?_, ?_, m.ok⟩
      · exact fun env4 S4 B4 H4 as4 σ4 f4 c4 g4 p4 => ⟨env4, S4, B4, as4, f4, c4, g4, p4⟩
      · exact fun env4 S4 B4 H4 as4 σ4 f4 c4 g4 p4 => m.nx env4 S4 B4 H4 as4 σ4 ⟨f1.kn.trans f4.kn, f4.base, f4.evo, f4.loc⟩ c4 g4 p4
      · exact fun env4 S4 B4 H4 as4 σ4 f4 c4 g4 p4 => ⟨env4, S4, B4, as4, f4, c4, g4, p4⟩
    · have e : i = ds.length := by omega
      subst e
      exact .inl ⟨w.stop B' H' as' S' ex' c' hg, m.nx env' S' B' H' as' σ' ⟨f1.kn.trans f'.kn, f'.base, f'.evo, f'.loc⟩ c' g' (hd env' S' hinv)⟩
end
end RW

set_option Elab.async false
set_option linter.all false
set_option maxRecDepth 100000
set_option maxHeartbeats 4000000
namespace RW
open PySem PySem.Spec PyProof.Rows L2
open Evl (Ex)
section
variable {K : PySem.W.Frag} {n : Nat} {te ta tb tc to ti : TE} {tt tu : TT} {tA tR : TA} {env env' : Env1} {S S1 S2 S3 : List Dat} {x y z : Sl} {d e : Dat} {ds es : List Dat} {r r' : R2} {P P' : Post} {t u : TS}
  {B B0 B1 B' H H0 H1 H' : Hp} {as as0 as1 : List Addr} {D : Ends} {σ : L2.St} {i : Nat} {a b c : Bool}
/-- a list that nothing knows, and what it holds -/
structure Acc (K : PySem.W.Frag) (p : Addr) (B H : Hp) (as : List Addr) (acc : List Dat) : Prop where
  nb : B p = none
  na : p ∉ as
  at_ : ∃ vs, H p = some (.lst vs) ∧ Reps K B vs acc
theorem Acc.step {p : Addr} {acc : List Dat} (h : Acc K p B H as acc) (e : Evo B H as B1 H1) : Acc K p B1 H1 as acc := by
  obtain ⟨vs, h1, h2⟩ := h.at_
  have h3 := e.fr p _ h.na h1 (fun _ z => nomatch z)
  refine ⟨?_, h.na, vs, h3, h2.mono e.ex⟩
  rcases e.gr p _ h1 (fun _ z => nomatch z) with z | ⟨o, fo, z⟩
  · exact z.trans h.nb
  · rw [h3] at z; cases z; exact fo.lst.elim
/-- a list that nothing knows may change -/
theorem Ok.other {p : Addr} {o : HO} (c : Ok K B H as S) (hb : B p = none) (ha : p ∉ as) : Ok K B (upd H p o) as S where
  ex := fun a u q => by
    rw [upd_ne (by rintro rfl; rw [hb] at q; cases q)]
    exact c.ex a u q
  len := c.len
  cells := fun k a s h1 h2 => by
    obtain ⟨q1, q2⟩ := c.cells k a s h1 h2
    have ne : a ≠ p := by rintro rfl; exact ha (List.mem_of_getElem? h1)
    refine ⟨q1, ?_⟩
    obtain ⟨o, q3, q4⟩ := q2
    exact ⟨o, by rw [upd_ne ne]; exact q3, q4⟩
  nd := c.nd
  ntb := c.ntb
  tb := c.tb
  lk := fun k a s o h1 h2 h3 => by
    have ne : a ≠ p := by rintro rfl; exact ha (List.mem_of_getElem? h1)
    rw [upd_ne ne] at h3
    exact c.lk k a s o h1 h2 h3
theorem Evo.other {p : Addr} {o : HO} (e : Evo B H as B1 H1) (hp : Nn H p) (hn : ∀ ps, o ≠ .tbl ps := by exact fun _ z => nomatch z) : Evo B H as B1 (upd H1 p o) :=
  ⟨e.ex, fun a u n q nt => by rw [upd_ne (by rintro rfl; exact hp.no q nt)]; exact e.fr a u n q nt, fun a u q nt => by rw [upd_ne (by rintro rfl; exact hp.no q nt)]; exact e.gr a u q nt, fun a u fo q => by
    rw [upd_ne (by rintro rfl; obtain ⟨ps, rfl⟩ := hp u q; exact fo.tbl)]; exact e.tp a u fo q, fun a u q nt => by rw [upd_ne (by rintro rfl; exact hp.no q nt)]; exact e.pr a u q nt⟩
theorem Acc.snoc {p : Addr} {acc : List Dat} {v : V} (h : Acc K p B H as acc) (r : Rep K B v d) : ∃ vs, H p = some (.lst vs) ∧ vs.length = acc.length ∧ Acc K p B (upd H p (.lst (vs ++ [v]))) as (acc ++ [d]) := by
  obtain ⟨vs, h1, h2⟩ := h.at_
  exact ⟨vs, h1, h2.length, h.nb, h.na, _, upd_same, h2.append (.cons r .nil)⟩
/-- [e for target in iter if test] -/
theorem en_lc {wi : TI} {g : TG} {vs : List Nat} {G : List Addr → List Addr → List Dat → Prop} (hw : IterD K wi env S G ds S1) (hz : ds.length ≤ sizeLine) (Inv : Nat → List Dat → List Dat → Prop) (h0 : Inv 0 [] S1)
    (hG : ∀ i acc S', Inv i acc S' → ∀ as : List Addr, as.length = S1.length → as.length = S'.length → G as as S')
    (hs : ∀ i d acc S', ds[i]? = some d → Inv i acc S' → ∃ is f b S2, TgD K g d is f ∧ (∀ i ∈ is, i ∈ vs) ∧ EvT K tt (f (wipeE env vs)) S' b S2 ∧
      (b = true → ∃ r S3, Ev K te (f (wipeE env vs)) S2 (.d r) S3 ∧ Inv (i + 1) (acc ++ [r]) S3) ∧ (b = false → Inv (i + 1) acc S2))
    {S' : List Dat} (hd : ∀ acc S2, Inv ds.length acc S2 → acc = es ∧ S2 = S') : EvN K (tLc wi g tt te vs) env S es S' := fun B H as σ c g0 Q q =>
  hw B H as σ c g0 _ fun J B1 H1 c1 e1 w Dl hDl => by
    have hD0 : Nn H Dl := e1.old hDl
    have c1' : Ok K B1 (upd H1 Dl (.lst [])) as S1 := c1.other (c1.Bnone hDl) (c1.fresh hDl)
    have e1' : Evo B H as B1 (upd H1 Dl (.lst [])) := e1.other hD0
    refine ⟨fun i mm H' => mm = ds.length - i ∧ i ≤ ds.length ∧ ∃ S' B' acc, Ok K B' H' as S' ∧ Evo B H as B' H' ∧ Ex B1 B' ∧ Acc K Dl B' H' as acc ∧ acc.length ≤ i ∧ Inv i acc S', ⟨_, rfl, Nat.zero_le _, S1, B1, [], c1', e1', Evl.Ex.refl _, ⟨c1.Bnone hDl, c1.fresh hDl, [], upd_same, .nil⟩, Nat.zero_le _, h0⟩, ?_⟩
    rintro i mm H' ⟨rfl, hi, S', B', acc, c', e', ex', hacc, hal, hinv⟩
    have hg := hG i acc S' hinv as c1.len c'.len
    by_cases hlt : i < ds.length
    · refine .inr ⟨w.go B' H' as S' i ex' c' hg hlt, fun H2 => ∃ S2 B2 acc2, Ok K B2 H2 as S2 ∧ Evo B H as B2 H2 ∧ Ex B1 B2 ∧ Acc K Dl B2 H2 as acc2 ∧ acc2.length ≤ i + 1 ∧ Inv (i + 1) acc2 S2, fun H2 hN => ⟨ds.length - (i + 1), by omega, rfl, hlt, hN⟩, fun x H2 hy => ?_⟩
      obtain ⟨B2, d, c2, e2, hd2, r2⟩ := w.yld B' H' as S' i x H2 ex' c' hg hlt hy
      obtain ⟨is, f, b, S2, tg, his, htt, ht, hf⟩ := hs i d acc S' hd2 hinv
      have gw : EnvR K B2 as (L2.wipe σ vs) (wipeE env vs) := ((g0.mono e1.ex).wipe vs).mono (ex'.trans e2.ex)
      refine tg B2 H2 as S' _ _ x c2 gw r2 _ fun σ3 g3 hw3 => ⟨?_, ?_⟩
      · rw [hw3 vs his]
        have : ∀ ws : List Nat, (∀ j ∈ ws, j ∈ vs) → L2.wipe (L2.wipe σ vs) ws = L2.wipe σ vs := by
          intro ws
          induction ws with
          | nil => intro _; rfl
          | cons j ws ih =>
            intro h
            show (L2.wipe (L2.wipe σ vs) ws).set j none = L2.wipe σ vs
            have e0 : L2.wipe (L2.wipe σ vs) ws = L2.wipe σ vs := ih fun k hk => h k (List.mem_cons_of_mem _ hk)
            rw [e0]
            have hj := h j List.mem_cons_self
            have key : ∀ (us : List Nat), j ∈ us → (L2.wipe σ us).set j none = L2.wipe σ us := by
              intro us
              induction us with
              | nil => intro h; cases h
              | cons k us ih =>
                intro hk
                unfold L2.wipe
                by_cases hj : j = k
                · subst hj; rw [List.set_set]
                · rw [List.set_comm _ _ (fun z => hj z.symm)]
                  rw [ih ((List.mem_cons.mp hk).resolve_left hj)]
            exact key vs hj
        exact this vs fun _ h => h
      · refine htt B2 H2 as σ3 c2 g3 _ fun B3 H3 c3 e3 => ?_
        have ac3 := (hacc.step e2).step e3
        have e03 := (e'.trans e2).trans e3
        have ex3 := (ex'.trans e2.ex).trans e3.ex
        cases b with
        | false => exact ⟨S2, B3, acc, c3, e03, ex3, ac3, by omega, hf rfl⟩
        | true =>
          obtain ⟨r, S3, hev, hinv'⟩ := ht rfl
          show te σ3 H3 _
          refine hev B3 H3 as σ3 c3 (g3.mono e3.ex) _ fun v B4 H4 c4 e4 r4 => ?_
          have ac4 := ac3.step e4
          obtain ⟨ws, hw4, hl4, ac5⟩ := ac4.snoc r4
          refine ⟨ws, hw4, by rw [hl4]; omega, S3, B4, acc ++ [r], c4.other ac4.nb ac4.na, (e03.trans e4).other hD0, ex3.trans e4.ex, ac5, by rw [List.length_append]; simp; omega, hinv'⟩
    · have e : i = ds.length := by omega
      subst e
      obtain ⟨e1, e2⟩ := hd acc S' hinv
      subst e1 e2
      obtain ⟨ws, hw4, hr4⟩ := hacc.at_
      exact .inl ⟨w.stop B' H' as S' ex' c' hg, q Dl B' H' ws c' e' ⟨hacc.na, hD0⟩ hacc.nb hw4 hr4⟩
/-- without a test, each element by itself -/
theorem en_map {wi : TI} {g : TG} {vs : List Nat} {G : List Addr → List Addr → List Dat → Prop} {is : List Nat} (hw : IterD K wi env S G ds S1) (hz : ds.length ≤ sizeLine)
    (hG : ∀ as : List Addr, as.length = S1.length → G as as S1) (his : ∀ i ∈ is, i ∈ vs) (f : Dat → Env1 → Env1) (F : Dat → Dat)
    (hs : ∀ (i : Nat) (d : Dat), ds[i]? = some d → TgD K g d is (f d) ∧ Ev K te (f d (wipeE env vs)) S1 (.d (F d)) S1) : EvN K (tLc wi g tYes te vs) env S (ds.map F) S1 := by
  refine en_lc (es := ds.map F) (S' := S1) hw hz (fun i acc S' => acc = (ds.take i).map F ∧ S' = S1) ⟨by simp, rfl⟩ (fun i acc S' h as l1 l2 => by rw [h.2]; exact hG as l1) (fun i d acc S' hd h => ?_) (fun acc S2 h => ?_)
  · obtain ⟨rfl, rfl⟩ := h
    obtain ⟨tg, hev⟩ := hs i d hd
    refine ⟨is, f d, true, S', tg, his, et_yes, fun _ => ⟨_, _, hev, ?_, rfl⟩, fun h => by cases h⟩
    have hl := (List.getElem?_eq_some_iff.mp hd).1
    have e : ds[i] = d := (List.getElem?_eq_some_iff.mp hd).2
    rw [List.take_succ_eq_append_getElem hl, e, List.map_append]
    rfl
  · obtain ⟨rfl, rfl⟩ := h
    exact ⟨by rw [List.take_length], rfl⟩
/-- with a test -/
theorem en_filter {wi : TI} {g : TG} {vs : List Nat} {G : List Addr → List Addr → List Dat → Prop} {is : List Nat} (hw : IterD K wi env S G ds S1) (hz : ds.length ≤ sizeLine)
    (hG : ∀ as : List Addr, as.length = S1.length → G as as S1) (his : ∀ i ∈ is, i ∈ vs) (f : Dat → Env1 → Env1) (F : Dat → Dat) (T : Dat → Bool)
    (hs : ∀ (i : Nat) (d : Dat), ds[i]? = some d → TgD K g d is (f d) ∧ EvT K tt (f d (wipeE env vs)) S1 (T d) S1 ∧ (T d = true → Ev K te (f d (wipeE env vs)) S1 (.d (F d)) S1)) : EvN K (tLc wi g tt te vs) env S ((ds.filter T).map F) S1 := by
  refine en_lc (es := (ds.filter T).map F) (S' := S1) hw hz (fun i acc S' => acc = ((ds.take i).filter T).map F ∧ S' = S1) ⟨by simp, rfl⟩ (fun i acc S' h as l1 l2 => by rw [h.2]; exact hG as l1) (fun i d acc S' hd h => ?_) (fun acc S2 h => ?_)
  · obtain ⟨rfl, rfl⟩ := h
    obtain ⟨tg, htt, hev⟩ := hs i d hd
    have hl := (List.getElem?_eq_some_iff.mp hd).1
    have e : ds[i] = d := (List.getElem?_eq_some_iff.mp hd).2
    refine ⟨is, f d, T d, S', tg, his, htt, fun h => ⟨_, _, hev h, ?_, rfl⟩, fun h => ⟨?_, rfl⟩⟩
    · rw [List.take_succ_eq_append_getElem hl, e, List.filter_append, List.map_append]
      simp [h]
    · rw [List.take_succ_eq_append_getElem hl, e, List.filter_append, List.map_append]
      simp [h]
  · obtain ⟨rfl, rfl⟩ := h
    exact ⟨by rw [List.take_length], rfl⟩
end
end RW

set_option Elab.async false
set_option linter.all false
set_option maxRecDepth 100000
set_option maxHeartbeats 4000000
namespace RW
open PySem PySem.Spec PyProof.Rows L2
open Evl (Ex)
section
variable {K : PySem.W.Frag} {n : Nat} {te ta tb tc to ti : TE} {tt tu : TT} {tA tR : TA} {env env' : Env1} {S S1 S2 S3 : List Dat} {x y z : Sl} {d e : Dat} {ds es : List Dat} {r r' : R2} {P P' : Post} {t u : TS}
  {B B0 B1 B' H H0 H1 H' : Hp} {as as0 as1 : List Addr} {D : Ends} {σ : L2.St} {i : Nat} {a b c : Bool}
theorem wipe_none {j : Nat} : ∀ {us : List Nat}, j ∈ us → (L2.wipe σ us).set j none = L2.wipe σ us
  | [], h => by cases h
  | k :: us, hk => by
    show ((L2.wipe σ us).set k none).set j none = (L2.wipe σ us).set k none
    by_cases hj : j = k
    · subst hj; rw [List.set_set]
    · rw [List.set_comm _ _ (fun z => hj z.symm), wipe_none ((List.mem_cons.mp hk).resolve_left hj)]
theorem wipe_wipe {vs : List Nat} : ∀ {ws : List Nat}, (∀ j ∈ ws, j ∈ vs) → L2.wipe (L2.wipe σ vs) ws = L2.wipe σ vs
  | [], _ => rfl
  | j :: ws, h => by
    show (L2.wipe (L2.wipe σ vs) ws).set j none = L2.wipe σ vs
    rw [wipe_wipe fun k hk => h k (List.mem_cons_of_mem _ hk), wipe_none (h j List.mem_cons_self)]
theorem flat_take {α β : Type} (f : α → List β) {l : List α} {i : Nat} {x : α} (h : l[i]? = some x) : (l.take (i + 1)).flatMap f = (l.take i).flatMap f ++ f x := by
  obtain ⟨hl, e⟩ := List.getElem?_eq_some_iff.mp h
  rw [List.take_succ_eq_append_getElem hl, e, List.flatMap_append]
  simp
theorem flat_le {α β : Type} (f : α → List β) {l : List α} {i : Nat} {x : α} (h : l[i]? = some x) : ((l.take i).flatMap f).length + (f x).length ≤ (l.flatMap f).length := by
  have h1 : (l.take (i + 1)).flatMap f ++ (l.drop (i + 1)).flatMap f = l.flatMap f := by
    rw [← List.flatMap_append, List.take_append_drop]
  rw [← h1, flat_take f h, List.length_append, List.length_append]
  omega
theorem map_take {α β : Type} (f : α → β) {l : List α} {i : Nat} {x : α} (h : l[i]? = some x) : (l.take (i + 1)).map f = (l.take i).map f ++ [f x] := by
  obtain ⟨hl, e⟩ := List.getElem?_eq_some_iff.mp h
  rw [List.take_succ_eq_append_getElem hl, e, List.map_append]
  rfl
/-- [e for x in xs for y in ..] -/
theorem en_flat {wi wi1 : TI} {g g1 : TG} {vs vs1 : List Nat} {G G1 : List Addr → List Addr → List Dat → Prop} {is is1 : List Nat} (hw : IterD K wi env S G ds S1) (inn : Dat → List Dat) (F : Dat → Dat → Dat)
    (hz : (ds.flatMap fun d => (inn d).map (F d)).length ≤ sizeLine) (hG : ∀ as : List Addr, as.length = S1.length → G as as S1) (hG1 : ∀ as : List Addr, as.length = S1.length → G1 as as S1)
    (his : ∀ i ∈ is, i ∈ vs) (his1 : ∀ i ∈ is1, i ∈ vs1) (hv1 : ∀ i ∈ vs1, i ∈ vs) (f : Dat → Env1 → Env1) (f1 : Dat → Dat → Env1 → Env1)
    (hs : ∀ (i : Nat) (d : Dat), ds[i]? = some d → TgD K g d is (f d) ∧ IterD K wi1 (f d (wipeE env vs)) S1 G1 (inn d) S1 ∧ ∀ (j : Nat) (e : Dat), (inn d)[j]? = some e →
      TgD K g1 e is1 (f1 d e) ∧ Ev K te (f1 d e (wipeE (f d (wipeE env vs)) vs1)) S1 (.d (F d e)) S1) :
    EvN K (tLc2 wi g tYes wi1 g1 tYes te vs vs1) env S (ds.flatMap fun d => (inn d).map (F d)) S1 := fun B H as σ c g0 Q q =>
  hw B H as σ c g0 _ fun J B1 H1 c1 e1 w Dl hDl => by
    have hD0 : Nn H Dl := e1.old hDl
    have c1' : Ok K B1 (upd H1 Dl (.lst [])) as S1 := c1.other (c1.Bnone hDl) (c1.fresh hDl)
    have e1' : Evo B H as B1 (upd H1 Dl (.lst [])) := e1.other hD0
    have hg := hG as c1.len
    have hg1 := hG1 as c1.len
    refine ⟨fun i mm H' => mm = ds.length - i ∧ i ≤ ds.length ∧ ∃ B', Ok K B' H' as S1 ∧ Evo B H as B' H' ∧ Ex B1 B' ∧ Acc K Dl B' H' as ((ds.take i).flatMap fun d => (inn d).map (F d)), ⟨_, rfl, Nat.zero_le _, B1, c1', e1', Evl.Ex.refl _, ⟨c1.Bnone hDl, c1.fresh hDl, [], upd_same, .nil⟩⟩, ?_⟩
    rintro i mm H' ⟨rfl, hi, B', c', e', ex', hacc⟩
    by_cases hlt : i < ds.length
    · refine .inr ⟨w.go B' H' as S1 i ex' c' hg hlt, fun H2 => ∃ B2, Ok K B2 H2 as S1 ∧ Evo B H as B2 H2 ∧ Ex B1 B2 ∧ Acc K Dl B2 H2 as ((ds.take (i + 1)).flatMap fun d => (inn d).map (F d)), fun H2 hN => ⟨ds.length - (i + 1), by omega, rfl, hlt, hN⟩, fun x H2 hy => ?_⟩
      obtain ⟨B2, d, c2, e2, hd2, r2⟩ := w.yld B' H' as S1 i x H2 ex' c' hg hlt hy
      obtain ⟨tg, hw1, hin⟩ := hs i d hd2
      have gw : EnvR K B2 as (L2.wipe σ vs) (wipeE env vs) := ((g0.mono e1.ex).wipe vs).mono (ex'.trans e2.ex)
      refine tg B2 H2 as S1 _ _ x c2 gw r2 _ fun σ3 g3 hw3 => ⟨?_, ?_⟩
      · rw [hw3 vs his, wipe_wipe fun _ h => h]
      · show wi1 σ3 H2 _
        refine hw1 B2 H2 as σ3 c2 g3 _ fun J1 B3 H3 c3 e3 w1 => ?_
        have ac3 := (hacc.step e2).step e3
        have e03 := (e'.trans e2).trans e3
        have ex3 := (ex'.trans e2.ex).trans e3.ex
        refine ⟨fun j kk H5 => kk = (inn d).length - j ∧ j ≤ (inn d).length ∧ ∃ B5, Ok K B5 H5 as S1 ∧ Evo B H as B5 H5 ∧ Ex B3 B5 ∧ Acc K Dl B5 H5 as (((ds.take i).flatMap fun d => (inn d).map (F d)) ++ ((inn d).take j).map (F d)),
          ⟨_, rfl, Nat.zero_le _, B3, c3, e03, Evl.Ex.refl _, by simpa using ac3⟩, ?_⟩
        rintro j kk H5 ⟨rfl, hj, B5, c5, e5, ex5, ac5⟩
        by_cases hlj : j < (inn d).length
        · refine .inr ⟨w1.go B5 H5 as S1 j ex5 c5 hg1 hlj, fun H6 => ∃ B6, Ok K B6 H6 as S1 ∧ Evo B H as B6 H6 ∧ Ex B3 B6 ∧ Acc K Dl B6 H6 as (((ds.take i).flatMap fun d => (inn d).map (F d)) ++ ((inn d).take (j + 1)).map (F d)), fun H6 hN => ⟨(inn d).length - (j + 1), by omega, rfl, hlj, hN⟩, fun x6 H6 hy6 => ?_⟩
          obtain ⟨B6, e6, c6, ev6, he6, r6⟩ := w1.yld B5 H5 as S1 j x6 H6 ex5 c5 hg1 hlj hy6
          obtain ⟨tg1, hev⟩ := hin j e6 he6
          have gw1 : EnvR K B6 as (L2.wipe σ3 vs1) (wipeE (f d (wipeE env vs)) vs1) := (((g3.mono e3.ex).mono ex5).wipe vs1).mono ev6.ex
          refine tg1 B6 H6 as S1 _ _ x6 c6 gw1 r6 _ fun σ7 g7 hw7 => ⟨?_, ?_⟩
          · rw [hw7 vs1 his1, wipe_wipe fun _ h => h]
          · show te σ7 H6 _
            refine hev B6 H6 as σ7 c6 g7 _ fun v B7 H7 c7 e7 r7 => ?_
            have ac7 := (ac5.step ev6).step e7
            obtain ⟨ws, hw8, hl8, ac8⟩ := ac7.snoc r7
            refine ⟨ws, hw8, ?_, B7, c7.other ac7.nb ac7.na, ((e5.trans ev6).trans e7).other hD0, (ex5.trans ev6.ex).trans e7.ex, ?_⟩
            · have hb := flat_le (fun d => (inn d).map (F d)) hd2
              rw [hl8, List.length_append, List.length_map, List.length_take]
              rw [List.length_map] at hb
              omega
            · rw [map_take (F d) he6, ← List.append_assoc]
              exact ac8
        · have ej : j = (inn d).length := by omega
          subst ej
          refine .inl ⟨w1.stop B5 H5 as S1 ex5 c5 hg1, B5, c5, e5, ex3.trans ex5, ?_⟩
          rw [flat_take (fun d => (inn d).map (F d)) hd2]
          rw [List.take_length] at ac5
          exact ac5
    · have e : i = ds.length := by omega
      subst e
      rw [List.take_length] at hacc
      obtain ⟨ws, hw4, hr4⟩ := hacc.at_
      exact .inl ⟨w.stop B' H' as S1 ex' c' hg, q Dl B' H' ws c' e' ⟨hacc.na, hD0⟩ hacc.nb hw4 hr4⟩
end
end RW

set_option Elab.async false
set_option linter.all false
set_option maxRecDepth 100000
set_option maxHeartbeats 4000000
namespace RW
open PySem PySem.Spec PyProof.Rows L2
open Evl (Ex)
section
variable {K : PySem.W.Frag} {n : Nat} {te ta tb tc to ti tv : TE} {tt tu : TT} {tA tR : TA} {env env' : Env1} {S S1 S2 S3 : List Dat} {x y z : Sl} {d e : Dat} {ds es : List Dat} {r r' : R2} {P P' : Post} {t u : TS}
  {B B0 B1 B' H H0 H1 H' : Hp} {as as0 as1 : List Addr} {D : Ends} {σ : L2.St} {i k : Nat} {a b c : Bool}
/-! ### what is changed -/
theorem Ok.setc {p : Addr} {o : HO} {s : Dat} (c : Ok K B H as S) (hk : as[k]? = some p) (r : CellO K B o s) (l : LkO as k o s := by exact fun _ _ _ _ h => nomatch h) (ht : ∀ P, adrOf s = some P → p = P := by exact fun _ h => nomatch h) : Ok K B (upd H p o) as (S.set k s) where
  ex := fun a u q => by
    have hl : k < S.length := by rw [← c.len]; exact (List.getElem?_eq_some_iff.mp hk).1
    obtain ⟨hb, _⟩ := c.cells k p S[k] hk (List.getElem?_eq_getElem hl)
    rw [upd_ne (by rintro rfl; rw [hb] at q; cases q)]
    exact c.ex a u q
  len := by rw [List.length_set]; exact c.len
  cells := fun j a s' h1 h2 => by
    by_cases hj : k = j
    · subst hj
      have hl : k < S.length := by rw [← c.len]; exact (List.getElem?_eq_some_iff.mp hk).1
      rw [List.getElem?_set_self hl] at h2
      cases h2
      rw [hk] at h1
      cases h1
      exact ⟨(c.cells k p S[k] hk (List.getElem?_eq_getElem hl)).1, o, upd_same, r⟩
    · rw [List.getElem?_set_ne hj] at h2
      obtain ⟨q1, o', q3, q4⟩ := c.cells j a s' h1 h2
      have ne : a ≠ p := by
        rintro rfl
        have hkl := (List.getElem?_eq_some_iff.mp hk).1
        exact hj ((List.getElem_inj (h₀ := hkl) (h₁ := (List.getElem?_eq_some_iff.mp h1).1) c.nd).mp (by rw [(List.getElem?_eq_some_iff.mp hk).2, (List.getElem?_eq_some_iff.mp h1).2]))
      exact ⟨q1, o', by rw [upd_ne ne]; exact q3, q4⟩
  nd := c.nd
  ntb := c.ntb
  tb := fun j d P h hd => by
    by_cases hj : k = j
    · subst hj
      have hl : k < S.length := by rw [← c.len]; exact (List.getElem?_eq_some_iff.mp hk).1
      rw [List.getElem?_set_self hl] at h
      rw [hk, ht P (by rw [Option.some.inj h]; exact hd)]
    · rw [List.getElem?_set_ne hj] at h
      exact c.tb j d P h hd
  lk := fun j a s' o' h1 h2 h3 => by
    by_cases hj : k = j
    · subst hj
      have hl : k < S.length := by rw [← c.len]; exact (List.getElem?_eq_some_iff.mp hk).1
      rw [List.getElem?_set_self hl] at h2
      cases h2
      rw [hk] at h1
      cases h1
      rw [upd_same] at h3
      cases h3
      exact l
    · rw [List.getElem?_set_ne hj] at h2
      have ne : a ≠ p := by
        rintro rfl
        have hkl := (List.getElem?_eq_some_iff.mp hk).1
        exact hj ((List.getElem_inj (h₀ := hkl) (h₁ := (List.getElem?_eq_some_iff.mp h1).1) c.nd).mp (by rw [(List.getElem?_eq_some_iff.mp hk).2, (List.getElem?_eq_some_iff.mp h1).2]))
      rw [upd_ne ne] at h3
      exact c.lk j a s' o' h1 h2 h3
theorem Evo.setc {p : Addr} {o o1 : HO} (hk : p ∈ as) (h1 : H p = some o1) (ht : ∀ xs, o1 ≠ .tup xs) (hc : ∀ a q, o1 ≠ LamX.CodeO a q := by (intro _ _ z; unfold LamX.CodeO at z; cases z)) (hn : ∀ ps, o ≠ .tbl ps := by exact fun _ z => nomatch z) : Evo B H as B (upd H p o) :=
  ⟨Evl.Ex.refl B, fun a u n q _ => by rw [upd_ne (by rintro rfl; exact n hk)]; exact q, fun _ _ _ _ => .inl rfl, fun a xs fo q => by rw [upd_ne (by rintro rfl; rw [h1] at q; cases q; exact fo.elim (fun ⟨ys, z⟩ => ht ys z) fun ⟨b, r, z⟩ => hc b r z)]; exact q, fun a u q nt => by
    by_cases h : a = p
    · subst h; exact ⟨o, upd_same, hn⟩
    · exact ⟨u, by rw [upd_ne h]; exact q, nt⟩⟩
/-- xs.append(e) -/
theorem ev_append (ho : Ev K to env S (.c k) S1) (h : Ev K te env S1 (.d d) S2) (h1 : ∃ es, S1[k]? = some (.lst es)) (hs : S2[k]? = some (.lst ds)) (hl : ds.length < sizeLine) : Ev K (tBM K "list" rAppend to (tCons te tNil)) env S (.d .non) (S2.set k (.lst (ds ++ [d]))) := fun B H as σ c g Q q =>
  ho B H as σ c g _ fun v B1 H1 c1 e1 r1 => by
    obtain ⟨p, hp, rfl⟩ := r1
    obtain ⟨es, hes⟩ := h1
    obtain ⟨ws, hw, rw'⟩ := (c1.cells k p _ hp hes).2.lst
    refine ⟨.inl ⟨rfl, ws, Evl.sq_of hw⟩, h B1 H1 as σ c1 (g.mono e1.ex) _ fun v B2 H2 c2 e2 r2 => ?_⟩
    obtain ⟨vs, hv, rv⟩ := (c2.cells k p _ hp hs).2.lst
    refine ⟨p, vs, v, rfl, rfl, hv, by rw [rv.length]; exact hl, q .non B2 _ (c2.setc hp (show CellO K B2 (.lst _) (.lst _) from rv.append (.cons r2 .nil))) ((e1.trans e2).trans (Evo.setc (List.mem_of_getElem? hp) hv (fun _ z => nomatch z))) .non⟩
/-- xs.extend(ys) -/
theorem ev_extend (ho : Ev K to env S (.c k) S1) (h : Ev K te env S1 (.d (.lst es)) S2) (h1 : ∃ es, S1[k]? = some (.lst es)) (hs : S2[k]? = some (.lst ds)) (hl : ds.length + es.length ≤ sizeLine) : Ev K (tBM K "list" rExtend to (tCons te tNil)) env S (.d .non) (S2.set k (.lst (ds ++ es))) := fun B H as σ c g Q q =>
  ho B H as σ c g _ fun v B1 H1 c1 e1 r1 => by
    obtain ⟨p, hp, rfl⟩ := r1
    obtain ⟨es', hes⟩ := h1
    obtain ⟨ws, hw, rw'⟩ := (c1.cells k p _ hp hes).2.lst
    refine ⟨.inl ⟨rfl, ws, Evl.sq_of hw⟩, h B1 H1 as σ c1 (g.mono e1.ex) _ fun v B2 H2 c2 e2 r2 => ?_⟩
    obtain ⟨vs, hv, rv⟩ := (c2.cells k p _ hp hs).2.lst
    cases r2 with
    | lst h3 r3 =>
      refine ⟨p, _, vs, _, rfl, rfl, hv, c2.ex _ _ h3, by rw [rv.length, r3.length]; exact hl, q .non B2 _ (c2.setc hp (show CellO K B2 (.lst _) (.lst _) from rv.append r3)) ((e1.trans e2).trans (Evo.setc (List.mem_of_getElem? hp) hv (fun _ z => nomatch z))) .non⟩
/-- xs[i] = e -/
theorem sp_setitem {j : Nat} {iv : Int} (h : Ev K te env S (.d d) S1) (ho : Ev K to env S1 (.c k) S2) (hi : Ev K ti env S2 (.d (.int iv)) S3) (hs : S3[k]? = some (.lst ds)) (hj : ixN ds.length iv = some j) (q : SP K n u env (S3.set k (.lst (ds.set j d))) P) :
    SP K n (tSeq (tAsg te (gSub to ti rSetL)) u) env S P := fun B0 H0 as0 Bk B H as σ hl f c g D m =>
  h B H as σ c g _ fun v B1 H1 c1 e1 r1 => ho B1 H1 as σ c1 (g.mono e1.ex) _ fun w B2 H2 c2 e2 r2 => hi B2 H2 as σ c2 (g.mono (e1.trans e2).ex) _ fun w3 B3 H3 c3 e3 r3 => by
    obtain ⟨p, hp, rfl⟩ := r2
    cases r3
    obtain ⟨vs, hv, rv⟩ := (c3.cells k p _ hp hs).2.lst
    have e03 := ((e1.trans e2).trans e3).trans (Evo.setc (o := .lst (vs.set j v)) (List.mem_of_getElem? hp) hv (fun _ z => nomatch z))
    exact ⟨p, vs, iv, j, rfl, rfl, hv, by rw [rv.length]; exact hj, q B0 H0 as0 Bk B3 _ as σ hl (f.step e03) (c3.setc hp (show CellO K B3 (.lst _) (.lst _) from Reps.set j (Rep.mono (e2.trans e3).ex r1) rv)) (g.mono e03.ex) D m⟩
/-- x op= e -/
theorem sp_aug {fn : Int → Int → Int} {p q : Int} (hx : env[i]? = some (some (.d (.int p)))) (h : Ev K te env S (.d (.int q)) S1) (k : SP K n u (env.set i (some (.d (.int (fn p q))))) S1 P) : SP K n (tSeq (tAug i te (ipI fn)) u) env S P := fun B0 H0 as0 Bk B H as σ hl f c g D m => by
  obtain ⟨v, h1, h2⟩ := g.2 i _ hx
  cases h2
  exact ⟨_, h1, h B H as σ c g _ fun w B1 H1 c1 e1 r1 => by
    cases r1
    exact ⟨p, q, rfl, rfl, k B0 H0 as0 Bk B1 H1 as _ hl (f.step e1) c1 (EnvR.set (s := .d (.int (fn p q))) i (g.mono e1.ex) (.int _)) D m⟩⟩
theorem sp_aug1 {fn : Int → Int → Int} {p q : Int} (hx : env[i]? = some (some (.d (.int p)))) (h : Ev K te env S (.d (.int q)) S1) (k : P.nx (env.set i (some (.d (.int (fn p q))))) S1) : SP K n (tAug i te (ipI fn)) env S P := fun B0 H0 as0 Bk B H as σ hl f c g D m => by
  obtain ⟨v, h1, h2⟩ := g.2 i _ hx
  cases h2
  exact ⟨_, h1, h B H as σ c g _ fun w B1 H1 c1 e1 r1 => by
    cases r1
    exact ⟨p, q, rfl, rfl, m.nx _ S1 B1 H1 as _ (f.step e1) c1 (EnvR.set (s := .d (.int (fn p q))) i (g.mono e1.ex) (.int _)) k⟩⟩
/-- a, b = e1, e2 -/
theorem sp_par {i j : Nat} (h : EvA K tA env S [x, y] S1) (k : SP K n u ((env.set i (some x)).set j (some y)) S1 P) : SP K n (tSeq (tPar i j tA) u) env S P := fun B0 H0 as0 Bk B H as σ hl f c g D m =>
  h B H as σ c g _ fun vs B1 H1 c1 e1 r1 => by
    cases r1 with
    | cons r1 rr =>
      cases rr with
      | cons r2 rr =>
        cases rr
        exact ⟨_, _, rfl, k B0 H0 as0 Bk B1 H1 as _ hl (f.step e1) c1 (((g.mono e1.ex).set i r1).set j r2) D m⟩
/-! ### instances -/
def putFD (f : Str) (v : Dat) : List (Str × Dat) → List (Str × Dat)
  | [] => [(f, v)]
  | (g, x) :: r => if g = f then (g, v) :: r else (g, x) :: putFD f v r
theorem RepF.put {f : Str} {v : V} : ∀ {vs : List (Str × V)} {fs : List (Str × Dat)}, Rep K B v d → RepF K B vs fs → RepF K B (putF f v vs) (putFD f d fs)
  | _, _, h, .nil => .cons h .nil
  | _, _, h, .cons (f := g) h1 r => by
    unfold putF putFD
    split
    · exact .cons h r
    · exact .cons h1 (RepF.put h r)
  | _, _, h, .cel (f := g) r => by
    unfold putF putFD
    split
    · exact .cons h r
    · exact .cel (RepF.put h r)
theorem RepF.length : ∀ {vs : List (Str × V)} {fs : List (Str × Dat)}, RepF K B vs fs → vs.length = fs.length
  | _, _, .nil => rfl
  | _, _, .cons _ r => by rw [List.length_cons, List.length_cons, RepF.length r]
  | _, _, .cel r => by rw [List.length_cons, List.length_cons, RepF.length r]
theorem putFD_look {f f' : Str} {v : Dat} : ∀ {fs : List (Str × Dat)}, (putFD f v fs).lookup f' = if f' = f then some v else fs.lookup f'
  | [] => by
    unfold putFD
    by_cases h : f' = f
    · subst h; rw [if_pos rfl]; simp [List.lookup]
    · have q : (f' == f) = false := by simpa using h
      rw [if_neg h]; simp only [List.lookup, q]
  | (g, x) :: r => by
    unfold putFD
    by_cases hg : g = f
    · subst hg
      rw [if_pos rfl]
      by_cases h : f' = g
      · subst h; rw [if_pos rfl]; simp [List.lookup]
      · have q : (f' == g) = false := by simpa using h
        rw [if_neg h]; simp only [List.lookup, q]
    · rw [if_neg hg]
      by_cases h : f' = g
      · subst h; rw [if_neg hg]; simp [List.lookup]
      · have q : (f' == g) = false := by simpa using h
        simp only [List.lookup, q]
        exact putFD_look
theorem putF_look {f f' : Str} {v : V} : ∀ {fs : List (Str × V)}, (putF f v fs).lookup f' = if f' = f then some v else fs.lookup f'
  | [] => by
    unfold putF
    by_cases h : f' = f
    · subst h; rw [if_pos rfl]; simp [List.lookup]
    · have q : (f' == f) = false := by simpa using h
      rw [if_neg h]; simp only [List.lookup, q]
  | (g, x) :: r => by
    unfold putF
    by_cases hg : g = f
    · subst hg
      rw [if_pos rfl]
      by_cases h : f' = g
      · subst h; rw [if_pos rfl]; simp [List.lookup]
      · have q : (f' == g) = false := by simpa using h
        rw [if_neg h]; simp only [List.lookup, q]
    · rw [if_neg hg]
      by_cases h : f' = g
      · subst h; rw [if_neg hg]; simp [List.lookup]
      · have q : (f' == g) = false := by simpa using h
        simp only [List.lookup, q]
        exact putF_look
theorem Ok.lkput {p C dx : Addr} {f : Str} {v : V} {vs : List (Str × V)} {fs : List (Str × Dat)} (c : Ok K B H as S) (hp : as[k]? = some p) (hs : S[k]? = some (.ins C fs)) (hv : H p = some (.ins C dx vs)) (r : Rep K B v d) : LkO as k (.ins C dx (putF f v vs)) (.ins C (putFD f d fs)) := fun C' fs' f' j e h1 h2 => by
  cases e
  rw [putFD_look] at h1
  by_cases h : f' = f
  · rw [if_pos h] at h1; cases h1; cases r
  · rw [if_neg h] at h1
    obtain ⟨b, dx', vs', q1, q2, q3⟩ := c.lk k p _ _ hp hs hv C fs f' j rfl h1 h2
    cases q2
    exact ⟨b, dx, _, q1, rfl, by rw [putF_look, if_neg h]; exact q3⟩
theorem ev_fld {C : Addr} {fs : List (Str × Dat)} {f : Str} (h : Ev K ta env S (.d (.ins C fs)) S1) (cl : Cls K C) (na : NoAttr K C f) (hf : fs.lookup f = some d) (hd : ∀ j, d ≠ .cel j := by exact fun _ z => nomatch z) : Ev K (tFld K ta f) env S (.d d) S1 := fun B H as σ c g Q q =>
  h B H as σ c g _ fun v B1 H1 c1 e1 r1 => by
    cases r1 with
    | ins h1 r1 =>
      obtain ⟨v, hv, rv⟩ := r1.get hf hd
      exact ⟨_, C, _, _, v, rfl, c1.ex _ _ h1, cl, na, hv, q v B1 H1 c1 e1 rv⟩
theorem ev_fldC {C : Addr} {fs : List (Str × Dat)} {f : Str} (h : Ev K ta env S (.c k) S1) (hs : S1[k]? = some (.ins C fs)) (cl : Cls K C) (na : NoAttr K C f) (hf : fs.lookup f = some d) (hd : ∀ j, d ≠ .cel j := by exact fun _ z => nomatch z) : Ev K (tFld K ta f) env S (.d d) S1 := fun B H as σ c g Q q =>
  h B H as σ c g _ fun v B1 H1 c1 e1 r1 => by
    obtain ⟨p, hp, rfl⟩ := r1
    obtain ⟨dx, vs, hv, rv⟩ := (c1.cells k p _ hp hs).2.ins
    obtain ⟨v, hv', rv'⟩ := rv.get hf hd
    exact ⟨p, C, dx, vs, v, rfl, hv, cl, na, hv', q v B1 H1 c1 e1 rv'⟩
/-- self.f = e -/
theorem sp_fld {C : Addr} {fs : List (Str × Dat)} {f : Str} (h : Ev K tv env S (.d d) S1) (ho : Ev K ta env S1 (.c k) S2) (hs : S2[k]? = some (.ins C fs)) (cl : Cls K C) (na : NoAttr K C f) (hl : fs.length < 1000) (q : SP K n u env (S2.set k (.ins C (putFD f d fs))) P) :
    SP K n (tSeq (sFld K ta tv f) u) env S P := fun B0 H0 as0 Bk B H as σ hl0 f0 c g D m =>
  h B H as σ c g _ fun v B1 H1 c1 e1 r1 => ho B1 H1 as σ c1 (g.mono e1.ex) _ fun w B2 H2 c2 e2 r2 => by
    obtain ⟨p, hp, rfl⟩ := r2
    obtain ⟨dx, vs, hv, rv⟩ := (c2.cells k p _ hp hs).2.ins
    have e03 := (e1.trans e2).trans (Evo.setc (o := .ins C dx (putF f v vs)) (List.mem_of_getElem? hp) hv (fun _ z => nomatch z))
    exact ⟨p, C, dx, vs, rfl, hv, cl, na, by rw [rv.length]; exact hl, q B0 H0 as0 Bk B2 _ as σ hl0 (f0.step e03) (c2.setc hp (show CellO K B2 (.ins C dx _) (.ins C _) from ⟨rfl, RepF.put (Rep.mono e2.ex r1) rv⟩) (c2.lkput hp hs hv (Rep.mono e2.ex r1))) (g.mono e03.ex) D m⟩
theorem sp_fld1 {C : Addr} {fs : List (Str × Dat)} {f : Str} (h : Ev K tv env S (.d d) S1) (ho : Ev K ta env S1 (.c k) S2) (hs : S2[k]? = some (.ins C fs)) (cl : Cls K C) (na : NoAttr K C f) (hl : fs.length < 1000) (q : P.nx env (S2.set k (.ins C (putFD f d fs)))) :
    SP K n (sFld K ta tv f) env S P := fun B0 H0 as0 Bk B H as σ hl0 f0 c g D m =>
  h B H as σ c g _ fun v B1 H1 c1 e1 r1 => ho B1 H1 as σ c1 (g.mono e1.ex) _ fun w B2 H2 c2 e2 r2 => by
    obtain ⟨p, hp, rfl⟩ := r2
    obtain ⟨dx, vs, hv, rv⟩ := (c2.cells k p _ hp hs).2.ins
    have e03 := (e1.trans e2).trans (Evo.setc (o := .ins C dx (putF f v vs)) (List.mem_of_getElem? hp) hv (fun _ z => nomatch z))
    exact ⟨p, C, dx, vs, rfl, hv, cl, na, by rw [rv.length]; exact hl, m.nx _ _ B2 _ as _ (f0.step e03) (c2.setc hp (show CellO K B2 (.ins C dx _) (.ins C _) from ⟨rfl, RepF.put (Rep.mono e2.ex r1) rv⟩) (c2.lkput hp hs hv (Rep.mono e2.ex r1))) (g.mono e03.ex) q⟩
/-- C(e, ..): a new instance, filled by its __init__ -/
theorem ev_make {C : Addr} {G : List Sl → List Dat → Dat → List Dat → Prop} {ss : List Sl} {E : XK} {fs : List (Str × Dat)} (h : EvA K tA env S ss S1) (hg : G (.c S1.length :: ss) (S1 ++ [.ins C []]) .non (S2 ++ [.ins C fs])) (hl : S2.length = S1.length) :
    Ev K (tMake C (SpD K G) [] E tA) env S (.d (.ins C fs)) S2 := fun B H as σ c g Q q =>
  h B H as σ c g _ fun vs B1 H1 c1 e1 r1 x dx hx hdx hne => by
    have hB := c1.Bnone hx
    have hxa := c1.fresh hx
    have hdB := c1.Bnone hdx
    have hda := c1.fresh hdx
    have c2 : Ok K B1 (upd (upd H1 dx (.own x)) x (.ins C dx [])) as S1 := (c1.other hdB hda).other hB hxa
    have e2 : Evo B1 H1 as B1 (upd (upd H1 dx (.own x)) x (.ins C dx [])) := (Evo.refl.other (.of hdx)).other (.of hx)
    have c3 : Ok K B1 (upd (upd H1 dx (.own x)) x (.ins C dx [])) (as ++ [x]) (S1 ++ [.ins C []]) := c2.push hB hxa (CellAt.ofI upd_same .nil) (fun _ _ _ _ _ _ e q _ => by cases e; cases q)
    have r3 : RepSs K B1 (as ++ [x]) (.ref x :: (vs ++ [])) (.c S1.length :: ss) := by
      refine .cons ⟨x, by rw [← c1.len]; simp, rfl⟩ ?_
      rw [List.append_nil]
      have grow : ∀ {vs : List V} {ss : List Sl}, RepSs K B1 as vs ss → RepSs K B1 (as ++ [x]) vs ss := by
        intro vs ss h
        induction h with
        | nil => exact .nil
        | cons h _ ih => exact .cons h.grow ih
      exact grow r1
    refine ⟨B1, as ++ [x], _, _, _, _, c3, r3, hg, fun v B4 H4 c4 e4 r4 => ⟨by cases r4; rfl, ?_⟩⟩
    have hk : (as ++ [x])[as.length]? = some x := by simp
    have hs : (S2 ++ [Dat.ins C fs])[as.length]? = some (.ins C fs) := by
      rw [c1.len, ← hl]; simp
    obtain ⟨hb4, hc4⟩ := c4.cells as.length x _ hk hs
    obtain ⟨dx', ws, hw, rw'⟩ := hc4.ins
    have c5 : Ok K B4 H4 as S2 := by
      have := c4.upto as.length
      rw [List.take_left, show as.length = S2.length by rw [c1.len, hl], List.take_left] at this
      exact this
    have nd := c4.nd
    have hx4 : x ∉ as := fun hm => (List.nodup_append.mp nd).2.2 x hm x (by simp) rfl
    have x0 : Nn H x := e1.old hx
    have e5 : Evo B H as B4 H4 := by
      have e12 := e1.trans e2
      refine ⟨e12.ex.trans e4.ex, fun a o hn q nt => e4.fr a o (fun hm => (List.mem_append.mp hm).elim hn fun z => ?_) (e12.fr a o hn q nt) nt, fun a o q nt => let ⟨o1, h1, n1⟩ := e12.pr a o q nt; (e4.gr a o1 h1 n1).elim (fun z => (e12.gr a o q nt).elim (fun z2 => .inl (z.trans z2)) fun ⟨o, fo, h⟩ => .inr ⟨o, fo, e4.tp a o fo h⟩) .inr, fun a o fo h => e4.tp a o fo (e12.tp a o fo h), fun a o q nt => let ⟨o1, h1, n1⟩ := e12.pr a o q nt; e4.pr a o1 h1 n1⟩
      rw [List.mem_singleton.mp z] at q
      exact x0.no q nt
    refine q (.ref x) (upd B4 x (.ins C dx' ws)) H4 (c5.know hw hb4 hx4) ⟨e5.ex.trans (Evl.Ex.new hb4), e5.fr, fun a o q nt => by rw [upd_ne (by rintro rfl; exact x0.no q nt)]; exact e5.gr a o q nt, e5.tp, e5.pr⟩ (.ins upd_same (RepF.mono (Evl.Ex.new hb4) rw'))
end
end RW

set_option Elab.async false
set_option linter.all false
set_option maxRecDepth 100000
set_option maxHeartbeats 4000000
namespace RW
open PySem PySem.Spec PyProof.Rows L2
open Evl (Ex)
section
variable {K : PySem.W.Frag} {n : Nat} {te ta tb tc to ti tv : TE} {tt tu : TT} {tA tR : TA} {env env' : Env1} {S S1 S2 S3 : List Dat} {x y z : Sl} {d e : Dat} {ds es : List Dat} {r r' : R2} {P P' : Post} {t u : TS}
  {B B0 B1 B' H H0 H1 H' : Hp} {as as0 as1 : List Addr} {D : Ends} {σ : L2.St} {i k : Nat} {a b c : Bool}
/-! ### enumerate, reversed(range) -/
def enumD (ds : List Dat) : List Dat := ds.mapIdx fun i d => Dat.tup [.int (i : Nat), d]
theorem enumD_len : (enumD ds).length = ds.length := by unfold enumD; rw [List.length_mapIdx]
theorem enumD_get {i : Nat} {d : Dat} (h : ds[i]? = some d) : (enumD ds)[i]? = some (.tup [.int (i : Nat), d]) := by
  unfold enumD
  rw [List.getElem?_mapIdx, h]
  rfl
theorem it_enum (h : EvA K tA env S [x] S1) (hx : Seq S1 x ds) : IterD K (iEnumG K tA) env S (fun as as2 S2 => GS x ds as as2 S2) (enumD ds) S1 := fun B H as σ c g R q => h B H as σ c g _ fun vs B1 H1 c1 e1 r1 => by
  cases r1 with
  | cons r1 rr =>
    cases rr
    obtain ⟨a1, k1, rfl, ⟨w1, q1⟩, st1⟩ := seq_stays c1 hx r1
    refine ⟨a1, k1, w1, rfl, q1, q _ B1 H1 c1 e1 ⟨fun B2 H2 as2 S2 i e c2 g2 hi => ?_, fun B2 H2 as2 S2 i x H3 e c2 g2 hi y => ?_, fun B2 H2 as2 S2 e c2 g2 => ?_⟩⟩
    · obtain ⟨u1, p1, rp1⟩ := st1 B2 H2 as2 S2 e c2 g2
      rw [enumD_len] at hi
      obtain ⟨v1, hv1, _⟩ := rp1.get (List.getElem?_eq_getElem hi)
      exact ⟨u1, v1, p1, hv1⟩
    · obtain ⟨u1, p1, rp1⟩ := st1 B2 H2 as2 S2 e c2 g2
      obtain ⟨T, v1, rfl, hT, rfl, y1⟩ := y
      obtain ⟨d1, hd1, r1⟩ := rp1.get' (y1 u1 p1)
      have hB : Ex B2 (upd B2 T (.tup [.int (i : Nat), v1])) := Evl.Ex.new (c2.Bnone hT)
      exact ⟨upd B2 T (.tup [.int (i : Nat), v1]), .tup [.int (i : Nat), d1], c2.new hT, Evo.new c2 hT, enumD_get hd1, .tup (Evl.st_of upd_same) (.cons (.int _) (.cons (r1.mono hB) .nil))⟩
    · obtain ⟨u1, p1, rp1⟩ := st1 B2 H2 as2 S2 e c2 g2
      exact ⟨u1, p1, by rw [enumD_len, rp1.length]⟩
/-- hi - 1, .., lo -/
def rngR (lo : Int) (n : Nat) : List Dat := (List.range n).map fun i => Dat.int (lo + (n : Int) - 1 + (i : Nat) * (-1))
theorem rngR_len {lo : Int} {n : Nat} : (rngR lo n).length = n := by unfold rngR; rw [List.length_map, List.length_range]
theorem rngR_get {lo : Int} {n i : Nat} (h : i < n) : (rngR lo n)[i]? = some (.int (lo + (n : Int) - 1 + (i : Nat) * (-1))) := by
  unfold rngR
  rw [List.getElem?_map, List.getElem?_range h]
  rfl
theorem walk_rngR {lo : Int} {n : Nat} {G : List Addr → List Dat → Prop} : WalkD K B (Itc (lo + (n : Int) - 1) (-1) n) G (rngR lo n) where
  go := fun B2 H2 as2 S2 i _ _ _ hi => by rw [rngR_len] at hi; exact hi
  yld := fun B2 H2 as2 S2 i x H3 _ c _ hi y => by
    rw [rngR_len] at hi
    obtain ⟨rfl, rfl⟩ := y
    exact ⟨B2, _, c, Evo.refl, rngR_get hi, .int _⟩
  stop := fun B2 H2 as2 S2 _ _ _ => by rw [rngR_len]; exact Nat.le_refl _
theorem it_rev1 {j : Int} (h : Ev K ta env S (.d (.int j)) S1) (hj : -(2 ^ 62) ≤ j ∧ j < 2 ^ 62) : IterD K (iRevR (tRg1 ta)) env S G0 (rngR 0 j.toNat) S1 := fun B H as σ c g R q => h B H as σ c g _ fun v B1 H1 c1 e1 r1 => by
  cases r1
  refine ⟨j, rfl, by decide, by decide, hj.1, hj.2, ?_⟩
  have e0 : (j - 0).toNat = j.toNat := by rw [Int.sub_zero]
  rw [e0]
  exact q _ B1 H1 c1 e1 walk_rngR
/-! ### == of data -/
mutual
def py : Dat → PyData
  | .non => .none
  | .bl b => .bool b
  | .int i => .int i
  | .str s => .str s
  | .tup xs => .tuple (pyAll xs)
  | .lst xs => .list (pyAll xs)
  | .ty _ => .none
  | .scr _ => .none
  | .ins _ _ => .none
  | .adr _ => .none
  | .dic _ => .none
  | .cel _ => .none
  | .tab _ _ => .none
  | .dd => .none
  | .lsa _ _ => .none
  | .dkd _ => .none
  | .dtd _ => .none
def pyAll : List Dat → List PyData
  | [] => []
  | x :: xs => py x :: pyAll xs
end
inductive Pl : Nat → Dat → Prop
  | non {m : Nat} : Pl m .non
  | bl {m : Nat} (b : Bool) : Pl m (.bl b)
  | int {m : Nat} (i : Int) : Pl m (.int i)
  | str {m : Nat} {s : Str} (h : (PyData.str s).canLay0 = true) : Pl m (.str s)
  | tup {m : Nat} {ds : List Dat} (h : ∀ d ∈ ds, Pl m d) : Pl (m + 1) (.tup ds)
  | lst {m : Nat} {ds : List Dat} (h : ∀ d ∈ ds, Pl m d) : Pl (m + 1) (.lst ds)
theorem pyAll_lay {m : Nat} : ∀ {ds : List Dat}, (∀ d ∈ ds, (py d).canLay0 = true ∧ (py d).depth ≤ m) → PyData.canLayAll0 (pyAll ds) = true ∧ PyData.depthAll (pyAll ds) ≤ m
  | [], _ => ⟨rfl, Nat.zero_le _⟩
  | d :: ds, h => by
    obtain ⟨h1, h2⟩ := pyAll_lay (ds := ds) fun d hd => h d (List.mem_cons_of_mem _ hd)
    obtain ⟨h3, h4⟩ := h d List.mem_cons_self
    refine ⟨?_, ?_⟩
    · show (PyData.canLay0 (py d) && PyData.canLayAll0 (pyAll ds)) = true
      rw [h1, h3]; rfl
    · show max (PyData.depth (py d)) (PyData.depthAll (pyAll ds)) ≤ m
      omega
theorem Pl.lay {m : Nat} (h : Pl m d) : (py d).canLay0 = true ∧ (py d).depth ≤ m := by
  induction h with
  | non => exact ⟨rfl, Nat.zero_le _⟩
  | bl b => exact ⟨rfl, Nat.zero_le _⟩
  | int i => exact ⟨rfl, Nat.zero_le _⟩
  | str h => exact ⟨h, Nat.zero_le _⟩
  | tup h ih =>
    obtain ⟨h1, h2⟩ := pyAll_lay ih
    exact ⟨h1, Nat.succ_le_succ h2⟩
  | lst h ih =>
    obtain ⟨h1, h2⟩ := pyAll_lay ih
    exact ⟨h1, Nat.succ_le_succ h2⟩
theorem Pl.shaped {m : Nat} (h : Pl m d) (hm : m ≤ 64) : SeqAt.shaped (py d) = true := by
  unfold SeqAt.shaped
  rw [h.lay.1, decide_eq_true (Nat.le_trans h.lay.2 hm)]
  rfl
theorem dpAll_of {m : Nat} : ∀ {vs : List V} {ds : List Dat}, (∀ d ∈ ds, ∀ v, Rep K H v d → Dp K H v (py d)) → Reps K H vs ds → DpAll K H vs (pyAll ds)
  | _, [], _, .nil => .nil
  | _, d :: ds, h, .cons r rr => .cons (h d List.mem_cons_self _ r) (dpAll_of (m := m) (fun d hd => h d (List.mem_cons_of_mem _ hd)) rr)
theorem Pl.dp {m : Nat} (h : Pl m d) : ∀ v, Rep K H v d → Dp K H v (py d) := by
  induction h with
  | non => intro v r; cases r; exact .non
  | bl b => intro v r; cases r; exact .bl b
  | int i => intro v r; cases r; exact .int i
  | str h => intro v r; cases r; exact .str _
  | tup h ih =>
    intro v r
    cases r with
    | tup h1 r1 => exact .tup h1 (dpAll_of (m := 0) ih r1)
  | lst h ih =>
    intro v r
    cases r with
    | lst h1 r1 => exact .lst (Evl.sq_of h1) (dpAll_of (m := 0) ih r1)
/-- what an operand is, as data -/
def PlS (S : List Dat) (x : Sl) (m : Nat) (d : Dat) : Prop := Pl m d ∧ (x = .d d ∨ ∃ k ds, x = .c k ∧ d = .lst ds ∧ S[k]? = some (.lst ds))
theorem plS_d {m : Nat} (h : Pl m d) : PlS S (.d d) m d := ⟨h, .inl rfl⟩
theorem plS_c {m k : Nat} (h : Pl m (.lst ds)) (hk : S[k]? = some (.lst ds)) : PlS S (.c k) m (.lst ds) := ⟨h, .inr ⟨k, ds, rfl, rfl, hk⟩⟩
theorem PlS.dp {m : Nat} {v : V} (h : PlS S x m d) (c : Ok K B H as S) (r : RepS K B as v x) : Dp K H v (py d) := by
  obtain ⟨hp, rfl | ⟨k, ds, rfl, rfl, hk⟩⟩ := h
  · exact hp.dp v (Rep.mono c.ex r)
  · obtain ⟨a, ha, rfl⟩ := r
    obtain ⟨vs, hv, rv⟩ := (c.cells k a _ ha hk).2.lst
    have rv' : Reps K H vs ds := Reps.mono c.ex rv
    exact hp.dp (.ref a) (.lst hv rv')
def eqD (d e : Dat) : Bool := PyData.eqv (py d) (py e)
theorem op2_eqD {m1 m2 : Nat} (h1 : PlS S x m1 d) (h2 : PlS S y m2 e) (hm1 : m1 ≤ 64) (hm2 : m2 ≤ 64) : Op2 K (rEqD K) x y S (.bl (eqD d e)) := fun B H as v w c r1 r2 Q q =>
  ⟨py d, py e, h1.dp c r1, h2.dp c r2, h1.1.shaped hm1, h2.1.shaped hm2, q _ B H c Evo.refl (.bl _)⟩
theorem op2_neD {m1 m2 : Nat} (h1 : PlS S x m1 d) (h2 : PlS S y m2 e) (hm1 : m1 ≤ 64) (hm2 : m2 ≤ 64) : Op2 K (rNeD K) x y S (.bl (!eqD d e)) := fun B H as v w c r1 r2 Q q =>
  ⟨py d, py e, h1.dp c r1, h2.dp c r2, h1.1.shaped hm1, h2.1.shaped hm2, q _ B H c Evo.refl (.bl _)⟩
theorem eqD_refl {m : Nat} (h : Pl m d) : eqD d d = true := SeqAt.eqv_refl _ h.lay.1
theorem eqD_int {i j : Int} : eqD (.int i) (.int j) = decide (i = j) := by
  show (i == j) = _
  by_cases h : i = j
  · subst h; simp
  · simp [h]
theorem eqvAll_map {α : Type} [DecidableEq α] (f : α → Dat) (h : ∀ x y, eqD (f x) (f y) = decide (x = y)) : ∀ xs ys : List α, PyData.eqvAll (pyAll (xs.map f)) (pyAll (ys.map f)) = decide (xs = ys)
  | [], [] => by simp [pyAll, PyData.eqvAll]
  | [], y :: ys => by simp [pyAll, PyData.eqvAll]
  | x :: xs, [] => by simp [pyAll, PyData.eqvAll]
  | x :: xs, y :: ys => by
    show (PyData.eqv (py (f x)) (py (f y)) && PyData.eqvAll (pyAll (xs.map f)) (pyAll (ys.map f))) = _
    rw [eqvAll_map f h xs ys]
    have := h x y
    unfold eqD at this
    rw [this]
    by_cases h1 : x = y <;> by_cases h2 : xs = ys <;> simp [h1, h2]
theorem eqD_tup {α : Type} [DecidableEq α] (f : α → Dat) (h : ∀ x y, eqD (f x) (f y) = decide (x = y)) (xs ys : List α) : eqD (.tup (xs.map f)) (.tup (ys.map f)) = decide (xs = ys) := eqvAll_map f h xs ys
theorem eqD_lst {α : Type} [DecidableEq α] (f : α → Dat) (h : ∀ x y, eqD (f x) (f y) = decide (x = y)) (xs ys : List α) : eqD (.lst (xs.map f)) (.lst (ys.map f)) = decide (xs = ys) := eqvAll_map f h xs ys
theorem op2_eq_int {i j : Int} : Op2 K rEq (.d (.int i)) (.d (.int j)) S (.bl (decide (i = j))) := fun B H as v w c h1 h2 Q q => by
  cases h1; cases h2
  have e : decide (V.int i = V.int j) = decide (i = j) := by
    by_cases h : i = j
    · subst h; simp
    · simp [h]
  refine ⟨rfl, ?_⟩
  rw [e]
  exact q _ B H c Evo.refl (.bl _)
theorem op2_ne_int {i j : Int} : Op2 K rNe (.d (.int i)) (.d (.int j)) S (.bl (!decide (i = j))) := fun B H as v w c h1 h2 Q q => by
  cases h1; cases h2
  have e : decide (V.int i = V.int j) = decide (i = j) := by
    by_cases h : i = j
    · subst h; simp
    · simp [h]
  refine ⟨rfl, ?_⟩
  rw [e]
  exact q _ B H c Evo.refl (.bl _)
/-! ### isinstance -/
def tyD : Dat → Option String
  | .non => some "NoneType"
  | .bl _ => some "bool"
  | .int _ => some "int"
  | .str _ => some "str"
  | .tup _ => some "tuple"
  | .lst _ => some "list"
  | .dd => some "dict"
  | _ => none
theorem tyX_of {T : String} {v : V} (c : Ok K B H as S) (h : tyD d = some T) (r : Rep K B v d) : TyX K H v (.type T) := by
  cases r with
  | non => cases h; exact .base .non
  | bl b => cases h; exact .base (.bl b)
  | int i => cases h; exact .base (.int i)
  | str s => cases h; exact .base (.str s)
  | ty n => cases h
  | tup h1 r1 =>
    cases h
    rcases Evl.ex_t c.ex h1 with (z | ⟨o, z⟩) | ⟨o, its, n, z, zc, _⟩
    · exact .base (.tup z)
    · exact .fTuple z
    · exact .kTuple z zc
  | lst h1 r1 => cases h; exact .base (.lst (c.ex _ _ h1))
  | scr h1 => cases h
  | ins h1 r1 => cases h
  | adr a => cases h
  | dd h1 => cases h; exact .base (.dT (c.ex _ _ h1))
theorem cd_isi {T N : String} (h : tyD d = some T) (hk : kitB T N = some b) : CallD K (rIsi K) [.d d, .d (.ty N)] S (.bl b) S := fun B H as vs c r Q q => by
  cases r with
  | cons r1 rr =>
    cases rr with
    | cons r2 rr =>
      cases rr; cases r2
      exact ⟨_, _, .type T, .type N, b, rfl, .ty N, tyX_of c h r1, kit_ty hk, q _ B H c Evo.refl (.bl b)⟩
/-- what an own class is for isinstance -/
structure InsC (K : PySem.W.Frag) (C : Addr) : Prop where
  cl : Cls K C
  ha : PySem.W.findIn K (.ref C) "__class__" = some (some (.builtin "object.__class__"))
  hn : PySem.W.specialIn K (.builtin "object.__class__") "__get__" = some (some (.builtin "getset_descriptor.__get__"))
  htk : PySem.W.takesIn K (.builtin "object.__class__") = some true
  hm : PySem.W.mroIn K C (.type "object") = some true
theorem cd_isiI {C : Addr} {fs : List (Str × Dat)} {cv : V} {cu : Value} {cd : Dat} (T : InsC K C) (hc : ∀ B v, Rep K B v cd → v = cv) (hcv : ClsV cv cu) (hk : PySem.W.kitOne K (.ref C) cu = some b) : CallD K (rIsi K) [.d (.ins C fs), .d cd] S (.bl b) S := fun B H as vs c r Q q => by
  cases r with
  | cons r1 rr =>
    cases rr with
    | cons r2 rr =>
      cases rr
      have e := hc _ _ r2
      subst e
      cases r1 with
      | ins h1 r1 => exact ⟨_, _, .ref C, cu, b, rfl, hcv, .base (.ins (c.ex _ _ h1) T.cl T.ha T.hn T.htk T.hm), hk, q _ B H c Evo.refl (.bl b)⟩
/-- an instance, asked for its own class -/
theorem cd_isiO {C C' : Addr} {fs : List (Str × Dat)} (T : InsC K C) (hk : PySem.W.kitOne K (.ref C) (.ref C') = some b) : CallD K (rIsi K) [.d (.ins C fs), .d (.adr C')] S (.bl b) S :=
  cd_isiI T (fun B v r => by cases r; rfl) (.own C') hk
/-- another value, asked for an own class -/
theorem cd_isiN {T : String} {C : Addr} (h : tyD d = some T) (hk : PySem.W.kitOne K (.type T) (.ref C) = some b) : CallD K (rIsi K) [.d d, .d (.adr C)] S (.bl b) S := fun B H as vs c r Q q => by
  cases r with
  | cons r1 rr =>
    cases rr with
    | cons r2 rr =>
      cases rr; cases r2
      exact ⟨_, _, .type T, .ref C, b, rfl, .own C, tyX_of c h r1, hk, q _ B H c Evo.refl (.bl b)⟩
end
end RW

set_option Elab.async false
set_option linter.all false
set_option maxRecDepth 100000
set_option maxHeartbeats 4000000
namespace RW
open PySem PySem.Spec PyProof.Rows L2
open Evl (Ex)
section
variable {K : PySem.W.Frag} {n : Nat} {te ta tb tc to ti tv : TE} {tt tu : TT} {tA tR : TA} {env env' : Env1} {S S1 S2 S3 : List Dat} {x y z : Sl} {d e : Dat} {ds es : List Dat} {r r' : R2} {P P' : Post} {t u : TS}
  {B B0 B1 B' H H0 H1 H' : Hp} {as as0 as1 : List Addr} {D : Ends} {σ : L2.St} {i j : Int} {k : Nat} {a b c : Bool}
theorem o_le : Op2 K (rI0 fun i j => V.bl (decide (i ≤ j))) (.d (.int i)) (.d (.int j)) S (.bl (decide (i ≤ j))) := op2_int0 fun B => .bl _
theorem o_lt : Op2 K (rI0 fun i j => V.bl (decide (i < j))) (.d (.int i)) (.d (.int j)) S (.bl (decide (i < j))) := op2_int0 fun B => .bl _
theorem o_gt : Op2 K (rI0 fun i j => V.bl (decide (j < i))) (.d (.int i)) (.d (.int j)) S (.bl (decide (j < i))) := op2_int0 fun B => .bl _
theorem o_ge : Op2 K (rI0 fun i j => V.bl (decide (j ≤ i))) (.d (.int i)) (.d (.int j)) S (.bl (decide (j ≤ i))) := op2_int0 fun B => .bl _
theorem o_leT (h : i ≤ j) : Op2 K (rI0 fun i j => V.bl (decide (i ≤ j))) (.d (.int i)) (.d (.int j)) S (.bl true) := by have := @o_le K S i j; rwa [decide_eq_true h] at this
theorem o_ltT (h : i < j) : Op2 K (rI0 fun i j => V.bl (decide (i < j))) (.d (.int i)) (.d (.int j)) S (.bl true) := by have := @o_lt K S i j; rwa [decide_eq_true h] at this
theorem o_add : Op2 K (rI0 fun i j => V.int (i + j)) (.d (.int i)) (.d (.int j)) S (.int (i + j)) := op2_int0 fun B => .int _
theorem o_sub : Op2 K (rI0 fun i j => V.int (i - j)) (.d (.int i)) (.d (.int j)) S (.int (i - j)) := op2_int0 fun B => .int _
theorem o_mul (h : CMul i j) : Op2 K (rI CMul fun i j => V.int (i * j)) (.d (.int i)) (.d (.int j)) S (.int (i * j)) := op2_int h fun B => .int _
theorem o_mod (h : 0 < j) : Op2 K (rI (fun x j => 0 < j) fun i j => V.int (i % j)) (.d (.int i)) (.d (.int j)) S (.int (i % j)) := op2_int h fun B => .int _
theorem o_fdivW (h : CDivW i j) : Op2 K (rI CDivW fun i j => V.int (i / j)) (.d (.int i)) (.d (.int j)) S (.int (i / j)) := op2_int h fun B => .int _
theorem o_pow (h : CPow i j) : Op2 K (rI CPow fun i j => V.int (i ^ j.toNat)) (.d (.int i)) (.d (.int j)) S (.int (i ^ j.toNat)) := op2_int h fun B => .int _
theorem o_neg : Op1 K (rU fun i => V.int (-i)) (.d (.int i)) S (.int (-i)) := op1_int fun B => .int _
theorem cm_l (h1 : -(2 ^ 64) < i) (h2 : i < 2 ^ 64) : CMul i j := .inl ⟨h1, h2⟩
theorem cm_r (h1 : -(2 ^ 64) < j) (h2 : j < 2 ^ 64) : CMul i j := .inr ⟨h1, h2⟩
/-- ** of any base -/
def CPowW (i j : Int) : Prop := 0 ≤ j ∧ (Builtin.Int.intBits i : Int) * j ≤ 2 ^ 27
theorem op_powW {X : Cx} : OpR X (binaryOp .Pow) (rI CPowW fun i j => .int (i ^ j.toNat)) := opI fun i j t u A E s hc q => pow_int hc.1 hc.2 q
theorem o_powW (h : CPowW i j) : Op2 K (rI CPowW fun i j => V.int (i ^ j.toNat)) (.d (.int i)) (.d (.int j)) S (.int (i ^ j.toNat)) := op2_int h fun B => .int _
theorem en_mapA {α : Type} {xs : List α} {g : α → Dat} (h : α → Dat) {wi : TI} {tg : TG} {vs : List Nat} {G : List Addr → List Addr → List Dat → Prop} {is : List Nat} (hw : IterD K wi env S G (xs.map g) S1) (hz : xs.length ≤ sizeLine)
    (hG : ∀ as : List Addr, as.length = S1.length → G as as S1) (his : ∀ i ∈ is, i ∈ vs) (f : α → Env1 → Env1)
    (hs : ∀ (a : α), a ∈ xs → TgD K tg (g a) is (f a) ∧ Ev K te (f a (wipeE env vs)) S1 (.d (h a)) S1) : EvN K (tLc wi tg tYes te vs) env S (xs.map h) S1 := by
  refine en_lc (es := xs.map h) (S' := S1) hw (by rw [List.length_map]; exact hz) (fun i acc S' => acc = (xs.take i).map h ∧ S' = S1) ⟨by simp, rfl⟩ (fun i acc S' h as l1 l2 => by rw [h.2]; exact hG as l1) (fun i d acc S' hd hi => ?_) (fun acc S2 h => ?_)
  · obtain ⟨rfl, rfl⟩ := hi
    rw [List.getElem?_map, Option.map_eq_some_iff] at hd
    obtain ⟨a, ha, rfl⟩ := hd
    obtain ⟨tg, hev⟩ := hs a (List.mem_of_getElem? ha)
    exact ⟨is, f a, true, S', tg, his, et_yes, fun _ => ⟨_, _, hev, (map_take h ha).symm, rfl⟩, fun h => by cases h⟩
  · obtain ⟨rfl, rfl⟩ := h
    exact ⟨by rw [List.length_map, List.take_length], rfl⟩
theorem filter_take {α : Type} (T : α → Bool) {l : List α} {i : Nat} {x : α} (h : l[i]? = some x) : (l.take (i + 1)).filter T = (l.take i).filter T ++ (if T x = true then [x] else []) := by
  have hl := (List.getElem?_eq_some_iff.mp h).1
  have e : l[i] = x := (List.getElem?_eq_some_iff.mp h).2
  rw [List.take_succ_eq_append_getElem hl, e, List.filter_append]
  congr 1
  by_cases q : T x = true <;> simp [q]
theorem en_filterA {α : Type} {xs : List α} {g : α → Dat} (T : α → Bool) (h : α → Dat) {wi : TI} {tg : TG} {vs : List Nat} {G : List Addr → List Addr → List Dat → Prop} {is : List Nat} (hw : IterD K wi env S G (xs.map g) S1) (hz : xs.length ≤ sizeLine)
    (hG : ∀ as : List Addr, as.length = S1.length → G as as S1) (his : ∀ i ∈ is, i ∈ vs) (f : α → Env1 → Env1)
    (hs : ∀ (a : α), a ∈ xs → TgD K tg (g a) is (f a) ∧ EvT K tt (f a (wipeE env vs)) S1 (T a) S1 ∧ (T a = true → Ev K te (f a (wipeE env vs)) S1 (.d (h a)) S1)) : EvN K (tLc wi tg tt te vs) env S ((xs.filter T).map h) S1 := by
  refine en_lc (es := (xs.filter T).map h) (S' := S1) hw (by rw [List.length_map]; exact hz) (fun i acc S' => acc = ((xs.take i).filter T).map h ∧ S' = S1) ⟨by simp, rfl⟩ (fun i acc S' h as l1 l2 => by rw [h.2]; exact hG as l1) (fun i d acc S' hd hi => ?_) (fun acc S2 h => ?_)
  · obtain ⟨rfl, rfl⟩ := hi
    rw [List.getElem?_map, Option.map_eq_some_iff] at hd
    obtain ⟨a, ha, rfl⟩ := hd
    obtain ⟨tg, htt, hev⟩ := hs a (List.mem_of_getElem? ha)
    refine ⟨is, f a, T a, S', tg, his, htt, fun q => ⟨_, _, hev q, ?_, rfl⟩, fun q => ⟨?_, rfl⟩⟩
    · rw [filter_take T ha, if_pos q, List.map_append]; rfl
    · rw [filter_take T ha, if_neg (by simp [q]), List.append_nil]
  · obtain ⟨rfl, rfl⟩ := h
    exact ⟨by rw [List.length_map, List.take_length], rfl⟩
/-- with a state that goes along: the vat -/
theorem en_fold {α β : Type} {xs : List α} {g : α → Dat} {es : List β} (h : β → Dat) (Sf : Nat → List Dat) {wi : TI} {tg : TG} {vs : List Nat} {G : List Addr → List Addr → List Dat → Prop} {is : List Nat} (hw : IterD K wi env S G (xs.map g) (Sf 0)) (hz : xs.length ≤ sizeLine) (hl : es.length = xs.length)
    (hG : ∀ i (as : List Addr), as.length = (Sf i).length → G as as (Sf i)) (hSl : ∀ i, (Sf i).length = (Sf 0).length) (his : ∀ i ∈ is, i ∈ vs) (f : α → Env1 → Env1)
    (hs : ∀ (i : Nat) (a : α) (b : β), xs[i]? = some a → es[i]? = some b → TgD K tg (g a) is (f a) ∧ Ev K te (f a (wipeE env vs)) (Sf i) (.d (h b)) (Sf (i + 1))) : EvN K (tLc wi tg tYes te vs) env S (es.map h) (Sf xs.length) := by
  refine en_lc (es := es.map h) (S' := Sf xs.length) hw (by rw [List.length_map]; exact hz) (fun i acc S' => acc = (es.take i).map h ∧ S' = Sf i) ⟨by simp, rfl⟩ (fun i acc S' h as l1 l2 => by rw [h.2] at l2 ⊢; exact hG i as l2) (fun i d acc S' hd hi => ?_) (fun acc S2 h => ?_)
  · obtain ⟨rfl, rfl⟩ := hi
    rw [List.getElem?_map, Option.map_eq_some_iff] at hd
    obtain ⟨a, ha, rfl⟩ := hd
    have hlt : i < es.length := by rw [hl]; exact (List.getElem?_eq_some_iff.mp ha).1
    obtain ⟨tg, hev⟩ := hs i a es[i] ha (List.getElem?_eq_getElem hlt)
    exact ⟨is, f a, true, _, tg, his, et_yes, fun _ => ⟨_, _, hev, (map_take h (List.getElem?_eq_getElem hlt)).symm, rfl⟩, fun h => by cases h⟩
  · obtain ⟨rfl, rfl⟩ := h
    refine ⟨?_, by rw [List.length_map]⟩
    rw [List.length_map, List.take_of_length_le (by omega)]
theorem sp_forA {α : Type} {xs : List α} {g : α → Dat} {wi : TI} {tg : TG} {tb : TS} {G : List Addr → List Addr → List Dat → Prop} (hw : IterD K wi env S G (xs.map g) S1) (Inv : Nat → Env1 → List Dat → Prop) (h0 : Inv 0 env S1)
    (hG : ∀ i env' S' as as2, Inv i env' S' → as.length = S1.length → as2.length = S'.length → as2.take n = as.take n → G as as2 S')
    (hs : ∀ i a env' S', xs[i]? = some a → Inv i env' S' → ∃ is f, TgD K tg (g a) is f ∧ SP K n tb (f env') S' { P with nx := Inv (i + 1), ct := Inv (i + 1), bk := P.nx })
    (hd : ∀ env' S', Inv xs.length env' S' → P.nx env' S') : SP K n (tFor wi tg tb) env S P := by
  refine sp_for hw Inv h0 hG (fun i d env' S' hd hi => ?_) (fun env' S' h => hd env' S' (by rwa [List.length_map] at h))
  rw [List.getElem?_map, Option.map_eq_some_iff] at hd
  obtain ⟨a, ha, rfl⟩ := hd
  exact hs i a env' S' ha hi
theorem rng_map {lo : Int} {n : Nat} : rng lo n = (List.range n).map fun i => Dat.int (lo + (i : Nat)) := rfl
theorem zip_map {α β : Type} (f : α → Dat) (g : β → Dat) (u : List α) (v : List β) : zipD (u.map f) (v.map g) = (u.zip v).map fun p => Dat.tup [f p.1, g p.2] := by
  unfold zipD
  rw [List.zipWith_map]
  induction u generalizing v with
  | nil => rfl
  | cons x u ih => cases v with
    | nil => rfl
    | cons y v => simp [ih]
theorem enum_map {α : Type} (f : α → Dat) (u : List α) : enumD (u.map f) = u.zipIdx.map fun p => Dat.tup [.int (p.2 : Nat), f p.1] := by
  unfold enumD
  apply List.ext_getElem
  · simp
  · intro i h1 h2; simp
theorem WalkD.weak {J : It} {G G' : List Addr → List Dat → Prop} (w : WalkD K B J G ds) (h : ∀ as2 S2, G' as2 S2 → G as2 S2) : WalkD K B J G' ds :=
  ⟨fun B2 H2 as2 S2 i e c g hi => w.go B2 H2 as2 S2 i e c (h _ _ g) hi, fun B2 H2 as2 S2 i x H3 e c g hi y => w.yld B2 H2 as2 S2 i x H3 e c (h _ _ g) hi y, fun B2 H2 as2 S2 e c g => w.stop B2 H2 as2 S2 e c (h _ _ g)⟩
theorem IterD.weak {wi : TI} {G G' : List Addr → List Addr → List Dat → Prop} (w : IterD K wi env S G ds S1) (h : ∀ as as2 S2, G' as as2 S2 → G as as2 S2) : IterD K wi env S G' ds S1 := fun B H as σ c g R q =>
  w B H as σ c g R fun J B1 H1 c1 e1 w1 => q J B1 H1 c1 e1 (w1.weak (h as))
theorem it_zipA {α β : Type} {u : List α} {v : List β} {f : α → Dat} {g : β → Dat} {x y : Dat} (h : EvA K tA env S [.d x, .d y] S1) (hx : Seq S1 (.d x) (u.map f)) (hy : Seq S1 (.d y) (v.map g)) : IterD K (iZipG K tA) env S G0 ((u.zip v).map fun p => Dat.tup [f p.1, g p.2]) S1 := by
  rw [← zip_map]; exact (it_zip h hx hy).weak fun _ _ _ _ => ⟨trivial, trivial⟩
theorem it_enumA {α : Type} {u : List α} {f : α → Dat} {x : Dat} (h : EvA K tA env S [.d x] S1) (hx : Seq S1 (.d x) (u.map f)) : IterD K (iEnumG K tA) env S G0 (u.zipIdx.map fun p => Dat.tup [.int (p.2 : Nat), f p.1]) S1 := by
  rw [← enum_map]; exact (it_enum h hx).weak fun _ _ _ _ => trivial
/-- return a new list that was just made -/
def SpN (K : PySem.W.Frag) (G : List Sl → List Dat → List Dat → List Dat → Prop) : Sp := fun vs H Q _ => ∃ B as S ss r S', Ok K B H as S ∧ RepSs K B as vs ss ∧ G ss S r S' ∧
  ∀ p B' H' ws, Ok K B' H' as S' → Evo B H as B' H' → Fresh H as p → B' p = none → H' p = some (.lst ws) → Reps K B' ws r → Q (.ref p) H'
theorem en_call {G : List Sl → List Dat → List Dat → List Dat → Prop} {ss : List Sl} {E : XK} (h : EvA K tA env S ss S1) (hg : G ss S1 ds S2) : EvN K (tCall (SpN K G) [] E tA) env S ds S2 := fun B H as σ c g Q q =>
  h B H as σ c g _ fun vs B1 H1 c1 e1 r1 => ⟨B1, as, S1, ss, ds, S2, c1, by rw [List.append_nil]; exact r1, hg, fun p B2 H2 ws c2 e2 hp hb hl r2 => q p B2 H2 ws c2 (e1.trans e2) ⟨hp.1, e1.oldN hp.2⟩ hb hl r2⟩
theorem spn_len {G : List Sl → List Dat → List Dat → List Dat → Prop} {k : Nat} (h : ∀ ss S r S', G ss S r S' → ss.length = k) : ∀ vs H Q E, SpN K G vs H Q E → vs.length = k := fun vs H Q E q => by
  obtain ⟨B, as, S, ss, r, S', c, rs, g, _⟩ := q
  rw [rs.length]
  exact h ss S r S' g
/-- isinstance told as a fact of the data -/
theorem cd_sortedI {ns ns' : List Int} (h : SeqL S x (ns.map Dat.int)) (hp : ns.Perm ns') (hs : ns'.Pairwise (· ≤ ·)) : CallD K (rSortedI K) [x] S (.lst (ns'.map Dat.int)) S := fun B H as vs c r Q q => by
  cases r with
  | cons r1 rr =>
    cases rr
    obtain ⟨a, ws, rfl, hq, hr⟩ := h.read c r1
    rw [hr.ints] at hq
    refine ⟨a, ns, rfl, Evl.sq_of hq, fun ms p h1 h2 hpn => ?_⟩
    have e : ms = ns' := (h1.trans hp).eq_of_pairwise (fun a b _ _ h1 h2 => Int.le_antisymm h1 h2) h2 hs
    subst e
    have rr : ∀ ms : List Int, Reps K (upd B p (.lst (ms.map V.int))) (ms.map V.int) (ms.map Dat.int) := fun ms => by
      have : ∀ (ks : List Int) (B : Hp), Reps K B (ks.map V.int) (ks.map Dat.int) := fun ks B => by
        induction ks with
        | nil => exact .nil
        | cons k ks ih => exact .cons (.int k) ih
      exact this ms _
    exact q _ (upd B p (.lst (ms.map V.int))) _ (c.new hpn) (Evo.new c hpn) (.lst upd_same (rr ms))
theorem ix_seqK {X : Cx} (K : PySem.W.Frag) (h : X.K = K := by rfl) : IxR X (rIx K) := h ▸ ix_seq
theorem pi_seqK {X : Cx} (K : PySem.W.Frag) {tg l : Expr} {tl : TE} (hl : PE X l tl) (h : X.K = K := by rfl) : PI X tg l (iSeq K tl) := h ▸ pi_seq hl
theorem pt_truK {X : Cx} (K : PySem.W.Frag) {e : Expr} {ta : TE} (ha : PE X e ta) (h : X.K = K := by rfl) (he : ∀ whole, isTrue e X.env whole = (do let v ← whole; standAt e.pos; holding [v] (truthy v)) := by intro _; rfl) : PT X e (tTru K ta) := h ▸ pt_tru ha he
theorem call_lenK {X : Cx} (K : PySem.W.Frag) (h : X.K = K := by rfl) : CallR X (.builtin "len") (rLenD K) := h ▸ call_lenD
theorem call_tupK {X : Cx} (K : PySem.W.Frag) (hc : X.calm = true) (h : X.K = K := by rfl) : CallR X (.type "tuple") (rTupD K) := h ▸ call_tupD hc
end
end RW

set_option Elab.async false
set_option linter.all false
set_option maxRecDepth 100000
set_option maxHeartbeats 4000000
namespace RW
open PySem PySem.Spec PyProof.Rows L2
open Evl (Ex)
section
variable {K : PySem.W.Frag} {n : Nat} {te ta tb tc to ti tv : TE} {tt tu : TT} {tA tR : TA} {env env' : Env1} {S S1 S2 S3 : List Dat} {x y z : Sl} {d e : Dat} {ds es : List Dat} {r r' : R2} {P P' : Post} {t u : TS}
  {B B0 B1 B2 B' H H0 H1 H2 H' : Hp} {as as0 as1 : List Addr} {D : Ends} {σ : L2.St} {j k : Nat} {a b c : Bool}
theorem Evo.kept {p : Addr} {o : HO} (e : Evo B1 H1 as B2 H2) (hp : p ∉ as) (h1 : H1 p = some o) (hb : B1 p = none) (ht : ∀ xs, o ≠ .tup xs := by exact fun _ z => nomatch z) (hc : ∀ a q, o ≠ LamX.CodeO a q := by (intro _ _ z; unfold LamX.CodeO at z; cases z)) (hn : ∀ ps, o ≠ .tbl ps := by exact fun _ z => nomatch z) : H2 p = some o ∧ B2 p = none :=
  have h3 := e.fr p o hp h1 hn
  ⟨h3, by
    rcases e.gr p o h1 hn with z | ⟨o', fo, z⟩
    · exact z.trans hb
    · rw [h3] at z; cases z; exact (fo.elim (fun ⟨ys, z⟩ => ht ys z) fun ⟨b, r, z⟩ => hc b r z).elim⟩
/-- (xs, y) with xs a new list that will be changed -/
theorem sp_pairC (h : EvN K ta env S ds S1) (hv : Ev K tb env S1 y S2) (q : SP K n u ((env.set j (some (.c S2.length))).set k (some y)) (S2 ++ [.lst ds]) P) :
    SP K n (tSeq (tAsg (tTup (tCons ta (tCons tb tNil))) (gTup K 2 (gCons (gName j) (gCons (gName k) gNil)))) u) env S P := fun B0 H0 as0 Bk B H as σ hl f c g D m =>
  h B H as σ c g _ fun p B1 H1 vs c1 e1 hp hb h1 r1 => hv B1 H1 as σ c1 (g.mono e1.ex) _ fun w B2 H2 c2 e2 r2 => ⟨by show 2 ≤ sizeLine; decide, fun t ht => by
    have hpa : p ∉ as := hp.1
    obtain ⟨k1, k2⟩ := e2.kept hpa h1 hb
    have c3 := c2.new (o := .tup [.ref p, w]) ht
    have e3 := Evo.new (o := .tup [.ref p, w]) c2 ht
    have e03 := (e1.trans e2).trans e3
    have npt : p ≠ t := by rintro rfl; rw [ht] at k1; cases k1
    refine ⟨t, _, rfl, Evl.st_of upd_same, rfl, _, _, rfl, _, _, rfl, rfl, ?_⟩
    refine q B0 H0 as0 Bk _ _ (as ++ [p]) _ hl ((f.step e03).push (f.evo.oldN hp.2)) (c3.push (by rw [upd_ne npt]; exact k2) hpa (.ofL (by rw [upd_ne npt]; exact k1) ((r1.mono e2.ex).mono e3.ex))) ((((g.mono e03.ex).grow).set (s := .c S2.length) j ?_).set k ((r2.mono e3.ex).grow)) D m
    exact ⟨p, by rw [← c2.len]; simp, rfl⟩⟩
/-- both new lists -/
theorem sp_pairCC (h : EvN K ta env S ds S1) (hv : EvN K tb env S1 es S2) (q : SP K n u ((env.set j (some (.c S2.length))).set k (some (.c (S2.length + 1)))) (S2 ++ [.lst ds] ++ [.lst es]) P) :
    SP K n (tSeq (tAsg (tTup (tCons ta (tCons tb tNil))) (gTup K 2 (gCons (gName j) (gCons (gName k) gNil)))) u) env S P := fun B0 H0 as0 Bk B H as σ hl f c g D m =>
  h B H as σ c g _ fun p B1 H1 vs c1 e1 hp hb h1 r1 => hv B1 H1 as σ c1 (g.mono e1.ex) _ fun p2 B2 H2 ws c2 e2 hp2 hb2 h2 r2 => ⟨by show 2 ≤ sizeLine; decide, fun t ht => by
    have hpa : p ∉ as := hp.1
    have hpa2 : p2 ∉ as := hp2.1
    have hpp : p ≠ p2 := by rintro rfl; exact hp2.2.no h1 (fun _ z => nomatch z)
    obtain ⟨k1, k2⟩ := e2.kept hpa h1 hb
    have c3 := c2.new (o := .tup [.ref p, .ref p2]) ht
    have e3 := Evo.new (o := .tup [.ref p, .ref p2]) c2 ht
    have e03 := (e1.trans e2).trans e3
    have npt : p ≠ t := by rintro rfl; rw [ht] at k1; cases k1
    have npt2 : p2 ≠ t := by rintro rfl; rw [ht] at h2; cases h2
    refine ⟨t, _, rfl, Evl.st_of upd_same, rfl, _, _, rfl, _, _, rfl, rfl, ?_⟩
    have c4 := c3.push (p := p) (by rw [upd_ne npt]; exact k2) hpa (.ofL (by rw [upd_ne npt]; exact k1) ((r1.mono e2.ex).mono e3.ex))
    have c5 := c4.push (p := p2) (by rw [upd_ne npt2]; exact hb2) (by simp [hpa2, hpp.symm]) (.ofL (by rw [upd_ne npt2]; exact h2) (r2.mono e3.ex))
    have f4 := (f.step e03).push (f.evo.oldN hp.2)
    refine q B0 H0 as0 Bk _ _ (as ++ [p] ++ [p2]) _ hl (f4.push (f.evo.oldN (e1.oldN hp2.2))) c5 ((((g.mono e03.ex).grow).grow.set (s := .c S2.length) j ?_).set (s := .c (S2.length + 1)) k ?_) D m
    · exact ⟨p, by rw [← c2.len]; simp, rfl⟩
    · exact ⟨p2, by rw [← c2.len]; simp, rfl⟩⟩
end
end RW
namespace RW
open PySem PySem.Spec PyProof.Rows L2
section
variable {K : PySem.W.Frag} {te : TE} {tA : TA} {env : Env1} {S S1 S1' : List Dat} {r : Sl} {rs : List Sl} {ds : List Dat}
theorem Ev.toS (h : Ev K te env S r S1) (e : S1 = S1') : Ev K te env S r S1' := e ▸ h
theorem EvN.toS (h : EvN K te env S ds S1) (e : S1 = S1') : EvN K te env S ds S1' := e ▸ h
theorem EvA.toS (h : EvA K tA env S rs S1) (e : S1 = S1') : EvA K tA env S rs S1' := e ▸ h
theorem it_rangeN {m : Nat} (h : EvA K tA env S [.d (.int m)] S1) (hm : m ≤ 1000) : IterD K (iRng1 tA) env S G0 ((List.range m).map fun i => Dat.int (0 + (i : Nat))) S1 := by
  have := it_range1 h ⟨by omega, by omega⟩
  rwa [Int.toNat_natCast, rng_map] at this
end
end RW

set_option Elab.async false
set_option linter.all false
set_option maxRecDepth 100000
set_option maxHeartbeats 4000000
namespace RwT
open PySem PySem.Spec PyProof.Rows L2
theorem tuple_mul1 (l : Addr) (items : Array Value) (n : Nat) (dd : Option Addr) (sl : Array (Option Value)) (u : Tok) :
    Meets (Builtin.«tuple.__mul__» ⟨[.ref l, .int 1 u], []⟩) (fun _ R s => s.heap.get? l = some { cls := .type "tuple", dict := dd, data := .seq items n, slots := sl } ∧
      R (.ok (.ret (Value.ref l))) s) :=
  .of_wp fun prog w A R s h => by
    obtain ⟨hp, g, d, tk, os⟩ := s
    obtain ⟨hl, h⟩ := h
    have f1 := AutoSeq1.idx_int
    wp_walk using wpAny_loadPart' hl
    repeat (first
      | (refine wpAny_ite_false (decide_eq_false (by decide)) ?_; wp_walk using wpAny_loadPart' hl)
      | (refine wpAny_ite_true (by simp) ?_; wp_walk using wpAny_loadPart' hl))
    exact ⟨_, rfl, h⟩
/-- tuple * n, n from 1 on -/
def rRepA (K : PySem.W.Frag) : R2 := fun x y H Q => ∃ l k xs, x = .ref l ∧ y = .int k ∧ SqT K H l xs ∧ xs ≠ [] ∧ 1 ≤ k ∧ k ≤ 1000 ∧ xs.length ≤ 1000 ∧ (k = 1 → Q (.ref l) H) ∧ (2 ≤ k → ∀ p, H p = none → Q (.ref p) (upd H p (.tup (List.replicate k.toNat xs).flatten)))
theorem op_repA {X : Cx} : OpR X (binaryOp .Mult) (rRepA X.K) := by
  intro pins s σ H x y v u Q I rx ry h
  obtain ⟨l, k, xs, rfl, rfl, hT, hne, h1, h2, hz, q1, q2⟩ := h
  by_cases hk : 2 ≤ k
  · exact op_repT pins s σ H _ _ v u Q I rx ry ⟨l, k, xs, rfl, rfl, hT, hne, hk, h2, hz, q2 hk⟩
  obtain rfl : k = 1 := by omega
  cases rx
  obtain ⟨t, rfl⟩ := ry
  obtain ⟨its, r, ⟨⟨cls, dd, data, sl⟩, ho, hc, n, hd⟩, hs⟩ := I.tuple hT
  simp only at hc hd
  subst hc hd
  refine wpAny_binaryOp_repeat_ref (T := "tuple") (U := "int") (by decide) ⟨_, ho, rfl⟩ (fun s' => typeIs_int s' 1 t) noFill_tuple_mul F.fills_int_mul F.slot_int_rmul repeat_tuple F.slot_int_index.lookup
    (call_meets F.slot_int_rmul (typeIs_int s 1 t) F.entry_int_rmul (F.args_int_rmul_2 _ _) (int_rmul_tuple 1 t l its.toArray n dd sl)
      ⟨ho, rfl, ⟨_, ho, rfl⟩, call_meets F.slot_tuple_mul ⟨_, ho, rfl⟩ F.entry_tuple_mul (F.args_tuple_mul_2 _ _) (tuple_mul1 l its.toArray n dd sl t) ⟨ho, ?_⟩⟩)
  exact ⟨.ref l, _, I, rfl, q1 rfl⟩
end RwT
namespace RW
open PySem PySem.Spec PyProof.Rows L2
theorem o_repA {K : PySem.W.Frag} {S : List Dat} {ds : List Dat} {k : Int} (hne : ds ≠ []) (h1 : 1 ≤ k) (h2 : k ≤ 1000) (hz : ds.length ≤ 1000) : Op2 K (RwT.rRepA K) (.d (.tup ds)) (.d (.int k)) S (.tup (List.replicate k.toNat ds).flatten) := fun B H as v w c r1 r2 Q q => by
  cases r2
  cases r1 with
  | tup h1' rr =>
    refine ⟨_, _, _, rfl, rfl, Evl.ex_t c.ex h1', fun e => hne ((reps_ne rr).mp e), h1, h2, by rw [rr.length]; exact hz, fun e => ?_, fun _ p hp => ?_⟩
    · subst e
      have : (List.replicate (1 : Int).toNat ds).flatten = ds := by simp
      rw [this] at q
      exact q _ B H c Evo.refl (.tup h1' rr)
    · exact q _ (upd B p _) _ (c.new hp) (Evo.new c hp) (.tup (Evl.st_of upd_same) ((reps_rep rr _).mono (Evl.Ex.new (c.Bnone hp))))
end RW

set_option Elab.async false
set_option linter.all false
set_option maxRecDepth 100000
set_option maxHeartbeats 4000000
namespace RW
open PySem PySem.Spec PyProof.Rows L2
open Evl (Ex)
theorem it_down {K : PySem.W.Frag} {tA : TA} {env : Env1} {S S1 : List Dat} {m : Nat} (h : EvA K tA env S [.d (.int ((m : Int) - 1)), .d (.int (-1)), .d (.int (-1))] S1) (hm : m ≤ 1000) : IterD K (iRng3 tA) env S G0 (rngR 0 m) S1 := fun B H as σ c g R q =>
  h B H as σ c g _ fun vs B1 H1 c1 e1 r1 => by
    cases r1 with
    | cons r1 rr =>
      cases rr with
      | cons r2 rr =>
        cases rr with
        | cons r3 rr =>
          cases rr
          cases r1; cases r2; cases r3
          have hc : RgC ((m : Int) - 1) (-1) (-1) m := by
            have := RgC.neg (i := (m : Int) - 1) (j := -1) (by omega) (by omega) (by omega) (by omega)
            rwa [show ((m : Int) - 1 - -1).toNat = m by omega] at this
          have hw : WalkD K B1 (Itc (0 + (m : Int) - 1) (-1) m) (G0 as) (rngR 0 m) := walk_rngR
          rw [show (0 : Int) + (m : Int) - 1 = (m : Int) - 1 by omega] at hw
          exact ⟨_, _, _, m, rfl, hc, q _ B1 H1 c1 e1 hw⟩
end RW

set_option Elab.async false
set_option linter.all false
set_option maxRecDepth 100000
set_option maxHeartbeats 4000000
namespace RW
open PySem PySem.Spec PyProof.Rows L2
open Evl (Ex)
/-! ### x is True, x is False: whatever x is -/
def rIsX (neg : Bool) : R2 := fun x y H Q => ∃ b : Bool, y = .bl b ∧ Q (.bl (neg != decide (x = .bl b))) H
theorem plainIs_bl {x : V} {v : Value} {b : Bool} (r : RelV x v) : plainIs v (.bool b) = true ∧ (v == Value.bool b) = decide (x = .bl b) := by
  cases x with
  | bl c =>
    cases (show v = Value.bool c from r)
    refine ⟨rfl, ?_⟩
    by_cases e : c = b
    · subst e; simp
    · have h1 : ¬ (V.bl c = V.bl b) := fun z => e (V.bl.inj z)
      rw [decide_eq_false h1]
      exact beq_eq_false_iff_ne.mpr fun z => e (Value.bool.inj z)
  | non => cases (show v = Value.none from r); exact ⟨rfl, by rw [decide_eq_false (fun z => nomatch z)]; exact beq_eq_false_iff_ne.mpr fun z => nomatch z⟩
  | int i => obtain ⟨t, rfl⟩ := r; exact ⟨rfl, by rw [decide_eq_false (fun z => nomatch z)]; exact beq_eq_false_iff_ne.mpr fun z => nomatch z⟩
  | str i => obtain ⟨t, rfl⟩ := r; exact ⟨rfl, by rw [decide_eq_false (fun z => nomatch z)]; exact beq_eq_false_iff_ne.mpr fun z => nomatch z⟩
  | byt i => obtain ⟨t, rfl⟩ := r; exact ⟨rfl, by rw [decide_eq_false (fun z => nomatch z)]; exact beq_eq_false_iff_ne.mpr fun z => nomatch z⟩
  | flt i => obtain ⟨t, rfl⟩ := r; exact ⟨rfl, by rw [decide_eq_false (fun z => nomatch z)]; exact beq_eq_false_iff_ne.mpr fun z => nomatch z⟩
  | ref a => cases (show v = Value.ref a from r); exact ⟨rfl, by rw [decide_eq_false (fun z => nomatch z)]; exact beq_eq_false_iff_ne.mpr fun z => nomatch z⟩
  | ty n => cases (show v = Value.type n from r); exact ⟨rfl, by rw [decide_eq_false (fun z => nomatch z)]; exact beq_eq_false_iff_ne.mpr fun z => nomatch z⟩
theorem op_isX {X : Cx} : OpR X (compareOp .Is) (rIsX false) := by
  intro pins s σ H x y v u Q I rx ry h
  obtain ⟨b, rfl, q⟩ := h
  cases (show u = Value.bool b from ry)
  obtain ⟨h1, h2⟩ := plainIs_bl (b := b) rx
  refine wpAny_is_plain h1 ⟨.bl (decide (x = .bl b)), H, I, ?_, by simpa using q⟩
  rw [h2]; rfl
theorem op_notX {X : Cx} : OpR X (compareOp .IsNot) (rIsX true) := by
  intro pins s σ H x y v u Q I rx ry h
  obtain ⟨b, rfl, q⟩ := h
  cases (show u = Value.bool b from ry)
  obtain ⟨h1, h2⟩ := plainIs_bl (b := b) rx
  refine wpAny_isNot_plain h1 ⟨.bl (!decide (x = .bl b)), H, I, ?_, by simpa using q⟩
  rw [h2]; rfl
section
variable {K : PySem.W.Frag} {S : List Dat} {i : Int} {b c : Bool} {neg : Bool}
theorem o_isX_int : Op2 K (rIsX neg) (.d (.int i)) (.d (.bl b)) S (.bl neg) := fun B H as v w k h1 h2 Q q => by
  cases h1; cases h2
  refine ⟨b, rfl, ?_⟩
  have e : (neg != decide (V.int i = V.bl b)) = neg := by cases neg <;> rfl
  rw [e]
  exact q _ B H k Evo.refl (.bl _)
end
end RW

set_option Elab.async false
set_option linter.all false
set_option maxRecDepth 100000
set_option maxHeartbeats 4000000
namespace RwT
open PySem PySem.Spec PyProof.Rows L2
section
variable {prog : Program} {w : World} {A : Around} {E : Value → Shared → Prop} {s : Shared} {K : PySem.W.Frag} {x y C f : Addr} {ox oy : Obj} {od od' : Option Obj}
theorem entry_ne (hu : A.units < cLine) (X : K.In s.heap) (I : PySem.W.InstAt s.heap x ox C od) (hs : PySem.W.findIn K (.ref C) "__eq__" = some (some (.ref f))) (hf : PySem.W.isFn K (.ref f) = true) {Q : Fin → Shared → Prop}
    (hcall : wpAny (model prog w) A (call (.ref f) [.ref x, .ref y]) (fun v s' => ∃ b, v = .bool b ∧ Q (.done (.ret (.bool (!b)))) s') E s) :
    wpAny (model prog w) A (Builtin.«object.__ne__» ⟨[.ref x, .ref y], []⟩) Q E s := by
  unfold Builtin.«object.__ne__»
  repeat (first
    | with_reducible refine wpAny_cRoomFor hu ?_
    | (refine wpAny_bind (m := callSpecialIfBound? (.ref x) (Str.ofString "__eq__") [.ref y])
        (PySem.W.ifBound_K X I hs hf (wpAny_mono hcall (fun r s' hr => by
          obtain ⟨b, rfl, hq⟩ := hr
          repeat (first | exact hq | exact wpAny_pure hq | exact wpAny_truthy_bool hq | (refine wpAny_bind (m := truthy (.bool _)) (wpAny_truthy_bool ?_)) | wp_step)) fun _ _ e => e)))
    | wp_step)
theorem ifBound_objNe {M : Model} {args : List Value} {Q : Option Value → Shared → Prop} (X : K.In s.heap) (I : PySem.W.InstAt s.heap x ox C od) (hs : PySem.W.findIn K (.ref C) "__ne__" = some (some (.builtin "object.__ne__")))
    (h : wpAny M A (call (.builtin "object.__ne__") (.ref x :: args)) (fun v => Q (some v)) E s) : wpAny M A (callSpecialIfBound? (.ref x) "__ne__" args) Q E s := by
  simp only [callSpecialIfBound?, bindSpecialIfBound?]
  refine wpAny_holding (wpAny_bind (wpAny_bind (wpAny_bind (I.type.here ((PySem.W.looks_findIn X hs).here ?_)))))
  refine wpAny_bind (wpAny_askSetting (wpAny_ite ?_))
  have fin : wpAny M A (call (.builtin "object.__ne__") ([.ref x] ++ args) >>= fun v => pure (some v)) Q E s := wpAny_bind (wpAny_mono h (fun v s' h' => wpAny_pure h') fun _ _ h' => h')
  split
  · exact wpAny_bind (wpAny_of_eq (F.cmp_object.ne.bind _) (wpAny_pure (by exact fin)))
  · exact wpAny_tryCatch (wpAny_bind (wpAny_of_eq (F.cmp_object.ne.bind _) (wpAny_pure (by exact fin))))
theorem rich_ne (hu : A.units + 1 < cLine) (X : K.In s.heap) (I : PySem.W.InstAt s.heap x ox C od) (I' : PySem.W.InstAt s.heap y oy C od') (hm : PySem.W.mroIn K C (.type "object") = some true)
    (hn : PySem.W.findIn K (.ref C) "__ne__" = some (some (.builtin "object.__ne__"))) (hs : PySem.W.findIn K (.ref C) "__eq__" = some (some (.ref f))) (hf : PySem.W.isFn K (.ref f) = true) {Q : Value → Shared → Prop}
    (hcall : wpAny (model prog w) A.in1 (call (.ref f) [.ref x, .ref y]) (fun v s' => ∃ b, v = .bool b ∧ Q (.bool (!b)) s') E s) :
    wpAny (model prog w) A (richCompare .NotEq (.ref x) (.ref y)) Q E s := by
  have one : wpAny (model prog w) A (tryCompare (.ref x) "__ne__" (.ref y)) (fun r s' => ∃ b, r = some (Value.bool b) ∧ Q (.bool b) s') E s := by
    unfold tryCompare
    refine wpAny_bind (ifBound_objNe X I hn (wpAny_call (codeAny_call_builtin F.cmp_object.ne.plain F.cmpEntry_ne (PySem.W.check_slot F.cmpKind_ne F.cmpSplit_ne (I.type.andThen (PySem.W.looks_mroIn X hm)) (F.cmpArgs_ne _ _)
      (entry_ne (A := A.in1) hu X I hs hf (wpAny_mono hcall (fun v s' hv => ?_) fun _ _ e => e))))))
    obtain ⟨b, rfl, hq⟩ := hv
    first | exact ⟨b, rfl, wpAny_pure ⟨_, rfl, hq⟩⟩ | exact ⟨b, rfl, wpAny_pure (wpAny_pure ⟨_, rfl, hq⟩)⟩
  unfold richCompare
  simp only [oneThing_ref]
  refine wpAny_holding (wpAny_bind (wpAny_cRoomFor (Nat.lt_of_succ_lt hu) ?_))
  rw [cmpInfo_NotEq]
  dsimp only
  refine wpAny_bind (I.type.here (wpAny_bind (I'.type.here ?_)))
  rw [show (Value.ref C != Value.ref C) = false from by simp]
  simp only [Bool.false_eq_true, if_false]
  refine wpAny_bind (wpAny_pure ?_)
  simp only [Bool.false_eq_true, if_false]
  refine wpAny_bind (wpAny_mono one (fun v s' hv => ?_) fun _ _ e => e)
  obtain ⟨b, rfl, hq⟩ := hv
  first | exact wpAny_pure hq | exact wpAny_pure (wpAny_pure hq)
end
/-- what is known of a class with an own == -/
structure OwnC (K : PySem.W.Frag) (C f : Addr) : Prop where
  eq : PySem.W.findIn K (.ref C) "__eq__" = some (some (.ref f))
  fn : PySem.W.isFn K (.ref f) = true
  ne : PySem.W.findIn K (.ref C) "__ne__" = some (some (.builtin "object.__ne__"))
  ob : PySem.W.mroIn K C (.type "object") = some true
  sub : PySem.W.notFirst K C (.ref C) = true
def rOwn (C : Addr) (sp : Sp) (E : XK) (neg : Bool) : R2 := fun x y H Q => ∃ a b dx dy fs gs, x = .ref a ∧ y = .ref b ∧ H a = some (.ins C dx fs) ∧ H b = some (.ins C dy gs) ∧ sp [.ref a, .ref b] H (fun v H' => ∃ k, v = .bl k ∧ Q (.bl (neg != k)) H') E
section
variable {X : Cx} {CX : CXT} {n : Nat} {C f : Addr} {fd : FuncData} {ps : List Str} {sp : Sp} {E : XK}
theorem call_own {A : Around} (hr : Room n A) (hA : A.frames = X.A.frames) (F : FnOk X.prog X.w X.K X.mg X.base CX n f fd ps sp) (hb : L2.Binds X.K fd ps []) (hx : Passes CX X E) {pins : List (Addr × Obj)} {σ : L2.St} {H : Hp} {s : Shared} (I : Inv X pins σ H s) {a b : Addr} {Q : VK} (h : sp [.ref a, .ref b] H Q E) :
    wpAny (model X.prog X.w) A (call (.ref f) [.ref a, .ref b]) (EP X pins σ Q) X.xe s := by
  have e0 : Env0 X.prog X.w X.K X.mg X.base A X.stack s H := by
    have e := I.env0
    exact ⟨by rw [hA]; exact e.frames, e.mod, e.bs, e.bsz, e.funs, e.frf, e.hok, e.bare⟩
  have hl := F.len _ _ _ _ h
  have r2 : Vals [V.ref a, V.ref b] [Value.ref a, Value.ref b] := .cons rfl (.cons rfl .nil)
  refine wpAny_call (codeAny_mono (F.run A X.stack s H ⟨[.ref a, .ref b], []⟩ [.ref a, .ref b] [.ref a, .ref b] _ E hr e0 (by
    have := hb s [.ref a, .ref b] I.kIn (by simpa using hl)
    simpa using this) r2 h) fun r s' hq => ?_)
  cases r with
  | error e => exact hx pins σ H s e s' I hq
  | ok fl =>
    cases fl with
    | ret w => exact I.after hq
    | next => exact False.elim hq
    | brk => exact False.elim hq
    | cont => exact False.elim hq
theorem op_ownEq (O : OwnC X.K C f) (hr : Room n X.A) (F : FnOk X.prog X.w X.K X.mg X.base CX n f fd ps sp) (hb : L2.Binds X.K fd ps []) (hx : Passes CX X E) : OpR X (compareOp .Eq) (rOwn C sp E false) := by
  intro pins s σ H x y v u Q I rx ry h
  obtain ⟨a, b, dx, dy, fs, gs, rfl, rfl, ha, hb', hp⟩ := h
  cases rx
  cases ry
  obtain ⟨mA, J, _⟩ := ins_get I.hok ha
  obtain ⟨mB, J', _⟩ := ins_get I.hok hb'
  obtain ⟨od, J, _⟩ := J.look
  obtain ⟨od', J', _⟩ := J'.look
  obtain ⟨m, hF⟩ := I.fr
  show wpAny (model X.prog X.w) X.A (richCompare .Eq (.ref a) (.ref b)) (EP X pins σ Q) X.xe s
  refine PySem.W.cmp_K (op := .Eq) (tb := .ref C) hr.units0 hF I.ok.mod.kin J J'.type O.sub O.eq O.fn ?_
  refine wpAny_mono (call_own hr rfl F hb hx I hp) (fun r s' q => ?_) fun _ _ x => x
  obtain ⟨z, H', I', rz, k, ez, q⟩ := q
  subst ez
  cases rz
  exact ⟨.bl k, H', I', rfl, by simpa using q⟩
theorem op_ownNe (O : OwnC X.K C f) (hr : Room (n + 1) X.A) (F : FnOk X.prog X.w X.K X.mg X.base CX n f fd ps sp) (hb : L2.Binds X.K fd ps []) (hx : Passes CX X E) : OpR X (compareOp .NotEq) (rOwn C sp E true) := by
  intro pins s σ H x y v u Q I rx ry h
  obtain ⟨a, b, dx, dy, fs, gs, rfl, rfl, ha, hb', hp⟩ := h
  cases rx
  cases ry
  obtain ⟨mA, J, _⟩ := ins_get I.hok ha
  obtain ⟨mB, J', _⟩ := ins_get I.hok hb'
  obtain ⟨od, J, _⟩ := J.look
  obtain ⟨od', J', _⟩ := J'.look
  show wpAny (model X.prog X.w) X.A (richCompare .NotEq (.ref a) (.ref b)) (EP X pins σ Q) X.xe s
  refine rich_ne (by have := hr.un; omega) I.kIn J J' O.ob O.ne O.eq O.fn ?_
  refine wpAny_mono (call_own hr.in1 rfl F hb hx I hp) (fun r s' q => ?_) fun _ _ x => x
  obtain ⟨z, H', I', rz, k, ez, q⟩ := q
  subst ez
  cases rz
  exact ⟨k, rfl, .bl (!k), H', I', rfl, by simpa using q⟩
end
end RwT
namespace RW
open PySem PySem.Spec PyProof.Rows L2
theorem o_own {K : PySem.W.Frag} {C : Addr} {G : List Sl → List Dat → Dat → List Dat → Prop} {E : XK} {neg k : Bool} {S : List Dat} {fs gs : List (Str × Dat)} (hg : G [.d (.ins C fs), .d (.ins C gs)] S (.bl k) S) :
    Op2 K (RwT.rOwn C (SpD K G) E neg) (.d (.ins C fs)) (.d (.ins C gs)) S (.bl (neg != k)) := fun B H as v w c r1 r2 Q q => by
  cases r1 with
  | ins h1 q1 =>
    cases r2 with
    | ins h2 q2 =>
      refine ⟨_, _, _, _, _, _, rfl, rfl, c.ex _ _ h1, c.ex _ _ h2, B, as, S, [.d (.ins C fs), .d (.ins C gs)], _, S, c, .cons (Rep.ins h1 q1 : Rep K B _ (.ins C fs)) (.cons (Rep.ins h2 q2 : Rep K B _ (.ins C gs)) .nil), hg, fun v B' H' c' e' r' => ?_⟩
      cases r'
      exact ⟨k, rfl, q _ B' H' c' e' (.bl _)⟩
end RW

set_option Elab.async false
set_option linter.all false
set_option maxRecDepth 100000
set_option maxHeartbeats 4000000
namespace RW
open PySem PySem.Spec PyProof.Rows L2
section
variable {K : PySem.W.Frag} {te ta tb to : TE} {tA : TA} {env : Env1} {S S1 S2 : List Dat} {x y : Sl} {a b acc out : Str} {ts : List TE} {i : Int}
/-! ### texts -/
theorem ev_fmtS (h : Ev K te env S (.d (.str a)) S1) (hl : a.length ≤ sizeLine) : Ev K (tFmt te) env S (.d (.str a)) S1 := fun B H as σ c g Q q =>
  h B H as σ c g _ fun v B1 H1 c1 e1 r1 => by
    cases r1
    exact .inl ⟨a, rfl, hl, q _ B1 H1 c1 e1 (.str a)⟩
theorem ev_fmtI (h : Ev K te env S (.d (.int i)) S1) (hl : i.natAbs.log2 < 1920) : Ev K (tFmt te) env S (.d (.str (Str.ofString (toString i)))) S1 := fun B H as σ c g Q q =>
  h B H as σ c g _ fun v B1 H1 c1 e1 r1 => by
    cases r1
    exact .inr ⟨i, rfl, hl, q _ B1 H1 c1 e1 (.str _)⟩
/-- the parts of an f-string, behind acc -/
def EvJ (K : PySem.W.Frag) (ts : List TE) (env : Env1) (S : List Dat) (acc out : Str) (S' : List Dat) : Prop :=
  ∀ B H as σ, Ok K B H as S → EnvR K B as σ env → ∀ Q : Str → Hp → Prop, (∀ B' H', Ok K B' H' as S' → Evo B H as B' H' → Q out H') → tJs ts acc σ H Q
theorem js_nil : EvJ K [] env S acc acc S := fun B H as σ c g Q q => q B H c Evo.refl
theorem js_cons {t : TE} (h : Ev K t env S (.d (.str a)) S1) (hl : (acc ++ a).length ≤ sizeLine) (k : EvJ K ts env S1 (acc ++ a) out S2) : EvJ K (t :: ts) env S acc out S2 := fun B H as σ c g Q q =>
  h B H as σ c g _ fun v B1 H1 c1 e1 r1 => by
    cases r1
    exact ⟨a, rfl, hl, k B1 H1 as σ c1 (g.mono e1.ex) _ fun B2 H2 c2 e2 => q B2 H2 c2 (e1.trans e2)⟩
theorem ev_joined (h : EvJ K ts env S Str.empty out S1) : Ev K (fun σ H Q => tJs ts Str.empty σ H fun out H1 => Q (.str out) H1) env S (.d (.str out)) S1 := fun B H as σ c g Q q =>
  h B H as σ c g _ fun B1 H1 c1 e1 => q _ B1 H1 c1 e1 (.str out)
/-- str(i) -/
def rStrI : List V → Hp → VK → Prop := fun xs H Q => ∃ i : Int, xs = [.int i] ∧ i.natAbs.log2 < 1920 ∧ Q (.str (Str.ofString (toString i))) H
theorem call_strI {X : Cx} : CallR X (.type "str") rStrI := call_str_int
theorem cd_strI (hl : i.natAbs.log2 < 1920) : CallD K rStrI [.d (.int i)] S (.str (Str.ofString (toString i))) S := fun B H as vs c r Q q => by
  cases r with
  | cons r1 rr =>
    cases rr; cases r1
    exact ⟨i, rfl, hl, q _ B H c Evo.refl (.str _)⟩
def rAddS : R2 := fun x y H Q => ∃ i j, x = V.str i ∧ y = V.str j ∧ i.length + j.length ≤ sizeLine ∧ Q (V.str (i ++ j)) H
theorem op_addS {X : Cx} : OpR X (binaryOp .Add) rAddS := op_add_str
theorem o_addS (hl : a.length + b.length ≤ sizeLine) : Op2 K rAddS (.d (.str a)) (.d (.str b)) S (.str (a ++ b)) := fun B H as v w c r1 r2 Q q => by
  cases r1; cases r2
  exact ⟨a, b, rfl, rfl, hl, q _ B H c Evo.refl (.str _)⟩
theorem Reps.strs {B : Hp} : ∀ {vs : List V} {ys : List Str}, Reps K B vs (ys.map Dat.str) → vs = ys.map V.str
  | _, [], .nil => rfl
  | _, y :: ys, .cons h r => by
    cases h
    rw [List.map_cons, Reps.strs r]
/-- sep.join(xs) -/
def rJoinD (K : PySem.W.Frag) : V → List V → Hp → VK → Prop := fun x xs H Q => ∃ a p ys, x = V.str a ∧ xs = [V.ref p] ∧ (SqL K H p (List.map V.str ys) ∨ SqT K H p (List.map V.str ys)) ∧ (List.map (fun x => x.length) ys).sum + ys.length * a.length ≤ 16777216 ∧ Q (V.str (Txt.join a ys)) H
theorem pe_joinK {X : Cx} (K : PySem.W.Frag) {o e : Expr} {to te : TE} {apos pos : Pos} (ho : PE X o to) (he : PE X e te) (hK : X.K = K := by rfl) (hs : starEach [e] X.env = [(false, eval e X.env)] := by rfl)
    (hb : attributeBase o (Str.ofString "join") X.env (eval o X.env) = eval o X.env := by rfl) (hl : (apos.endLine == pos.line) = true := by rfl) : PE X ((o.Attribute (Str.ofString "join") apos).Call [e] [] pos) (tM1 (rJoinD K) to te) := hK ▸ pe_join ho he hs hb hl
theorem ev_join {ys : List Str} (ho : Ev K to env S (.d (.str a)) S1) (h : Ev K te env S1 x S2) (hx : SeqL S2 x (ys.map Dat.str)) (hl : (ys.map fun x => x.length).sum + ys.length * a.length ≤ 16777216) : Ev K (tM1 (rJoinD K) to te) env S (.d (.str (Txt.join a ys))) S2 := fun B H as σ c g Q q =>
  ho B H as σ c g _ fun v B1 H1 c1 e1 r1 => by
    cases r1
    refine ⟨⟨a, rfl⟩, h B1 H1 as σ c1 (g.mono e1.ex) _ fun w B2 H2 c2 e2 r2 => ?_⟩
    obtain ⟨p, ws, rfl, hq, hr⟩ := hx.read c2 r2
    rw [hr.strs] at hq
    exact ⟨a, p, ys, rfl, rfl, .inl (Evl.sq_of hq), hl, q _ B2 H2 c2 (e1.trans e2) (.str _)⟩
end
end RW

namespace RwT
open PySem PySem.Spec PyProof.Rows L2
/-- str(o), o of an own class with a __str__ -/
def rStrO (C : Addr) (sp : Sp) (E : XK) : List V → Hp → VK → Prop := fun xs H Q => ∃ a dx fs, xs = [.ref a] ∧ H a = some (.ins C dx fs) ∧ sp [.ref a] H (fun v H' => ∃ t, v = .str t ∧ Q (.str t) H') E
section
variable {X : Cx} {CX : CXT} {n : Nat} {C f : Addr} {fd : FuncData} {ps : List Str} {sp : Sp} {E : XK}
theorem call_own1 {A : Around} (hr : Room n A) (hA : A.frames = X.A.frames) (F : FnOk X.prog X.w X.K X.mg X.base CX n f fd ps sp) (hb : L2.Binds X.K fd ps []) (hx : Passes CX X E) {pins : List (Addr × Obj)} {σ : L2.St} {H : Hp} {s : Shared} (I : Inv X pins σ H s) {a : Addr} {Q : VK} (h : sp [.ref a] H Q E) :
    wpAny (model X.prog X.w) A (call (.ref f) [.ref a]) (EP X pins σ Q) X.xe s := by
  have e0 : Env0 X.prog X.w X.K X.mg X.base A X.stack s H := by
    have e := I.env0
    exact ⟨by rw [hA]; exact e.frames, e.mod, e.bs, e.bsz, e.funs, e.frf, e.hok, e.bare⟩
  have hl := F.len _ _ _ _ h
  have r2 : Vals [V.ref a] [Value.ref a] := .cons rfl .nil
  refine wpAny_call (codeAny_mono (F.run A X.stack s H ⟨[.ref a], []⟩ [.ref a] [.ref a] _ E hr e0 (by
    have := hb s [.ref a] I.kIn (by simpa using hl)
    simpa using this) r2 h) fun r s' hq => ?_)
  cases r with
  | error e => exact hx pins σ H s e s' I hq
  | ok fl =>
    cases fl with
    | ret w => exact I.after hq
    | next => exact False.elim hq
    | brk => exact False.elim hq
    | cont => exact False.elim hq
theorem call_strO (hs : PySem.W.findIn X.K (.ref C) "__str__" = some (some (.ref f))) (hf : PySem.W.isFn X.K (.ref f) = true) (hr : Room (n + 2) X.A) (F : FnOk X.prog X.w X.K X.mg X.base CX n f fd ps sp) (hb : L2.Binds X.K fd ps []) (hx : Passes CX X E) : CallR X (.type "str") (rStrO C sp E) := by
  intro pins s σ H xs us Q I r h
  obtain ⟨a, dx, fs, rfl, ha, hp⟩ := h
  obtain ⟨u, rfl, r1⟩ := vals1 r
  cases r1
  obtain ⟨mA, J, _⟩ := ins_get I.hok ha
  obtain ⟨od, J, _⟩ := J.look
  have hr2 : Room n X.A.in1.in1 := (show Room (n + 1) X.A.in1 from Room.in1 hr).in1
  refine PySem.W.kso_call (by have := hr2.un; omega) I.kIn J hs hf ?_
  refine wpAny_mono (call_own1 hr2 rfl F hb hx I hp) (fun r s' q => ?_) fun _ _ x => x
  obtain ⟨z, H', I', rz, t, ez, q⟩ := q
  subst ez
  obtain ⟨tk, rfl⟩ := rz
  exact ⟨.str t, H', I', ⟨tk, rfl⟩, q⟩
end
end RwT
namespace RW
open PySem PySem.Spec PyProof.Rows L2
theorem cd_strO {K : PySem.W.Frag} {C : Addr} {G : List Sl → List Dat → Dat → List Dat → Prop} {E : XK} {S : List Dat} {fs : List (Str × Dat)} {t : Str} (hg : G [.d (.ins C fs)] S (.str t) S) :
    CallD K (RwT.rStrO C (SpD K G) E) [.d (.ins C fs)] S (.str t) S := fun B H as vs c r Q q => by
  cases r with
  | cons r1 rr =>
    cases rr
    cases r1 with
    | ins h1 q1 =>
      refine ⟨_, _, _, rfl, c.ex _ _ h1, B, as, S, [.d (.ins C fs)], _, S, c, .cons (Rep.ins h1 q1 : Rep K B _ (.ins C fs)) .nil, hg, fun v B' H' c' e' r' => ?_⟩
      cases r'
      exact ⟨t, rfl, q _ B' H' c' e' (.str _)⟩
end RW

set_option Elab.async false
set_option linter.all false
set_option maxRecDepth 100000
set_option maxHeartbeats 4000000
namespace RW
open PySem PySem.Spec PyProof.Rows L2
/-! rules inside comprehensions, with K given -/
theorem cr_sumK {X : Cx} (K : PySem.W.Frag) (hc : X.calm = true := by rfl) (h : X.K = K := by rfl) : CallR X (.builtin "sum") (rSum K) := h ▸ cr_sum hc
theorem cr_allK {X : Cx} (K : PySem.W.Frag) (hc : X.calm = true := by rfl) (h : X.K = K := by rfl) : CallR X (.builtin "all") (rAll K) := h ▸ cr_all hc
theorem cr_anyK {X : Cx} (K : PySem.W.Frag) (hc : X.calm = true := by rfl) (h : X.K = K := by rfl) : CallR X (.builtin "any") (rAny K) := h ▸ cr_any hc
theorem pi_zipGK {X : Cx} (K : PySem.W.Frag) {e e2 : Expr} {ta : TA} {p pos tpos : Pos} {elts : List Expr} {kk : Nat} (hg : Gl X "zip") (hm : X.mg "zip" = none) (ha : PA X [e, e2] ta) (h : X.K = K := by rfl)
    (hs : starEach [e, e2] X.env = (false, eval e X.env) :: starEach [e2] X.env := by rfl) (hpl : (backTo pos (starEach [e2] X.env)).any (·.1) = false := by rfl) :
    PI X (.Tuple elts kk tpos) (.Call (.Name "zip" p) [e, e2] [] pos) (iZipG K ta) := h ▸ pi_zipG hg hm ha hs hpl
theorem op_eqDK {X : Cx} (K : PySem.W.Frag) (hu : X.A.units + 64 < cLine) (h : X.K = K := by rfl) : OpR X (compareOp .Eq) (rEqD K) := h ▸ op_eqD hu
theorem op_neDK {X : Cx} (K : PySem.W.Frag) (hu : X.A.units + 64 < cLine) (h : X.K = K := by rfl) : OpR X (compareOp .NotEq) (rNeD K) := h ▸ op_neD hu
theorem EvN.toD {K : PySem.W.Frag} {te : TE} {env : Env1} {S S1 ds ds' : List Dat} (h : EvN K te env S ds S1) (e : ds = ds') : EvN K te env S ds' S1 := e ▸ h
theorem Ev.to' {K : PySem.W.Frag} {te : TE} {env : Env1} {S S1 S1' : List Dat} {r r' : Sl} (h : Ev K te env S r S1) (e : r = r') (e2 : S1 = S1') : Ev K te env S r' S1' := e ▸ e2 ▸ h
theorem sl_tupAK {X : Cx} (K : PySem.W.Frag) (h : X.K = K := by rfl) : SlR X (rSlA K) := h ▸ sl_tupA
theorem sl_listK {X : Cx} (K : PySem.W.Frag) (h : X.K = K := by rfl) : SlR X (rSlL K) := h ▸ sl_list
end RW

set_option Elab.async false
set_option linter.all false
set_option maxRecDepth 100000
set_option maxHeartbeats 4000000
/-! an own == beside whatever stands on its right -/
namespace RwT
open PySem PySem.Spec PyProof.Rows L2
inductive TyB (K : PySem.W.Frag) (H : Hp) : V → Value → Prop where
  | non : TyB K H .non (.type "NoneType")
  | int (i : Int) : TyB K H (.int i) (.type "int")
  | bl (b : Bool) : TyB K H (.bl b) (.type "bool")
  | str (z : Str) : TyB K H (.str z) (.type "str")
  | tup {a : Addr} {xs : List V} (h : SqT K H a xs) : TyB K H (.ref a) (.type "tuple")
  | ins {a C dx : Addr} {fs : List (Str × V)} (h : H a = some (.ins C dx fs)) : TyB K H (.ref a) (.ref C)
def rOwnA (K : PySem.W.Frag) (C : Addr) (sp : Sp) (E : XK) : R2 := fun x y H Q => ∃ a dx fs tb, x = .ref a ∧ H a = some (.ins C dx fs) ∧ TyB K H y tb ∧ PySem.W.notFirst K C tb = true ∧ sp [.ref a, y] H (fun v H' => ∃ k, v = .bl k ∧ Q (.bl k) H') E
section
variable {X : Cx} {CX : CXT} {n : Nat} {C f : Addr} {fd : FuncData} {ps : List Str} {sp : Sp} {E : XK}
theorem tyB_looks {M : Model} {pins : List (Addr × Obj)} {σ : L2.St} {H : Hp} {s : Shared} {y : V} {u tb : Value} (I : Inv X pins σ H s) (ry : RelV y u) (t : TyB X.K H y tb) : PySem.W.Looks M s.heap (typeOf u) tb := by
  cases t with
  | non => cases (show u = Value.none from ry); exact .of_pure rfl
  | int i => obtain ⟨tk, rfl⟩ := (show ∃ tk, u = Value.int i tk from ry); exact .of_pure rfl
  | bl b => cases (show u = Value.bool b from ry); exact .of_pure rfl
  | str z => obtain ⟨tk, rfl⟩ := (show ∃ tk, u = Value.str z tk from ry); exact .of_pure rfl
  | tup h =>
    cases (show u = Value.ref _ from ry)
    obtain ⟨its, rv, ⟨o, e, c, _⟩, _⟩ := I.tuple h
    exact c ▸ (PySem.W.Looks.ld e).andThen .now
  | ins h =>
    cases (show u = Value.ref _ from ry)
    obtain ⟨mA, J, _⟩ := ins_get I.hok h
    obtain ⟨od, J, _⟩ := J.look
    exact J.type
theorem call_ownV {A : Around} (hr : Room n A) (hA : A.frames = X.A.frames) (F : FnOk X.prog X.w X.K X.mg X.base CX n f fd ps sp) (hb : L2.Binds X.K fd ps []) (hx : Passes CX X E) {pins : List (Addr × Obj)} {σ : L2.St} {H : Hp} {s : Shared} (I : Inv X pins σ H s) {a : Addr} {y : V} {u : Value} (ry : RelV y u) {Q : VK} (h : sp [.ref a, y] H Q E) :
    wpAny (model X.prog X.w) A (call (.ref f) [.ref a, u]) (EP X pins σ Q) X.xe s := by
  have e0 : Env0 X.prog X.w X.K X.mg X.base A X.stack s H := by
    have e := I.env0
    exact ⟨by rw [hA]; exact e.frames, e.mod, e.bs, e.bsz, e.funs, e.frf, e.hok, e.bare⟩
  have hl := F.len _ _ _ _ h
  have r2 : Vals [V.ref a, y] [Value.ref a, u] := .cons rfl (.cons ry .nil)
  refine wpAny_call (codeAny_mono (F.run A X.stack s H ⟨[.ref a, u], []⟩ [.ref a, u] [.ref a, y] _ E hr e0 (by
    have := hb s [.ref a, u] I.kIn (by simpa using hl)
    simpa using this) r2 h) fun r s' hq => ?_)
  cases r with
  | error e => exact hx pins σ H s e s' I hq
  | ok fl =>
    cases fl with
    | ret w => exact I.after hq
    | next => exact False.elim hq
    | brk => exact False.elim hq
    | cont => exact False.elim hq
theorem op_ownEqA (O : OwnC X.K C f) (hr : Room n X.A) (F : FnOk X.prog X.w X.K X.mg X.base CX n f fd ps sp) (hb : L2.Binds X.K fd ps []) (hx : Passes CX X E) : OpR X (compareOp .Eq) (rOwnA X.K C sp E) := by
  intro pins s σ H x y v u Q I rx ry h
  obtain ⟨a, dx, fs, tb, rfl, ha, ty, hn, hp⟩ := h
  cases rx
  obtain ⟨mA, J, _⟩ := ins_get I.hok ha
  obtain ⟨od, J, _⟩ := J.look
  obtain ⟨m, hF⟩ := I.fr
  show wpAny (model X.prog X.w) X.A (richCompare .Eq (.ref a) u) (EP X pins σ Q) X.xe s
  refine PySem.W.cmp_K (op := .Eq) (tb := tb) hr.units0 hF I.ok.mod.kin J (tyB_looks I ry ty) hn O.eq O.fn ?_
  refine wpAny_mono (call_ownV hr rfl F hb hx I ry hp) (fun r s' q => ?_) fun _ _ x => x
  obtain ⟨z, H', I', rz, k, ez, q⟩ := q
  subst ez
  cases rz
  exact ⟨.bl k, H', I', rfl, by simpa using q⟩
theorem op_ownEqAK {K : PySem.W.Frag} (O : OwnC X.K C f) (hr : Room n X.A) (F : FnOk X.prog X.w X.K X.mg X.base CX n f fd ps sp) (hb : L2.Binds X.K fd ps []) (hx : Passes CX X E) (h : X.K = K := by rfl) : OpR X (compareOp .Eq) (rOwnA K C sp E) := h ▸ op_ownEqA O hr F hb hx
end
end RwT
namespace RW
open PySem PySem.Spec PyProof.Rows L2
/-- what is known of the kinds on the right -/
structure NotSub (K : PySem.W.Frag) (C : Addr) : Prop where
  non : PySem.W.notFirst K C (.type "NoneType") = true
  int : PySem.W.notFirst K C (.type "int") = true
  tup : PySem.W.notFirst K C (.type "tuple") = true
  self : PySem.W.notFirst K C (.ref C) = true
theorem kt_of {K : PySem.W.Frag} {C : Addr} {N : String} (h1 : PySem.W.isClsIn K C = true) (h2 : PySem.W.typeIn K (.ref C) = some (.type "type")) (h3 : PySem.W.subIn K (.type N) (.ref C) = some false) : PySem.W.kitOne K (.type N) (.ref C) = some false := by
  unfold PySem.W.kitOne
  rw [if_neg (by simp)]
  show (if ((PySem.W.clsIn K C).isSome && PySem.W.typeIn K (.ref C) == some (.type "type")) = true then _ else _) = _
  have h4 : (PySem.W.clsIn K C).isSome = true := h1
  rw [h4, h2, if_pos (by simp), h3]
inductive RightD (C : Addr) : Dat → Prop where
  | non : RightD C .non
  | int (i : Int) : RightD C (.int i)
  | tup (ds : List Dat) : RightD C (.tup ds)
  | ins (fs : List (Str × Dat)) : RightD C (.ins C fs)
theorem o_ownA {K : PySem.W.Frag} {C : Addr} {G : List Sl → List Dat → Dat → List Dat → Prop} {E : XK} {k : Bool} {S : List Dat} {fs : List (Str × Dat)} {d : Dat} (N : NotSub K C) (hd : RightD C d) (hg : G [.d (.ins C fs), .d d] S (.bl k) S) :
    Op2 K (RwT.rOwnA K C (SpD K G) E) (.d (.ins C fs)) (.d d) S (.bl k) := fun B H as v w c r1 r2 Q q => by
  cases r1 with
  | ins h1 q1 =>
    have fin : ∀ tb, RwT.TyB K H w tb → PySem.W.notFirst K C tb = true → RwT.rOwnA K C (SpD K G) E (.ref _) w H Q := fun tb ty hn =>
      ⟨_, _, _, tb, rfl, c.ex _ _ h1, ty, hn, B, as, S, [.d (.ins C fs), .d d], _, S, c, .cons (Rep.ins h1 q1 : Rep K B _ (.ins C fs)) (.cons r2 .nil), hg, fun v B' H' c' e' r' => by cases r'; exact ⟨k, rfl, q _ B' H' c' e' (.bl _)⟩⟩
    cases hd with
    | non => cases r2; exact fin _ .non N.non
    | int i => cases r2; exact fin _ (.int i) N.int
    | tup ds => cases r2 with
      | tup h2 _ => exact fin _ (.tup (Evl.ex_t c.ex h2)) N.tup
    | ins gs => cases r2 with
      | ins h2 _ => exact fin _ (.ins (c.ex _ _ h2)) N.self
end RW

set_option Elab.async false
set_option linter.all false
set_option maxRecDepth 100000
set_option maxHeartbeats 4000000
namespace RW
open PySem PySem.Spec PyProof.Rows L2 StX
theorem RepSs.mapd {K : PySem.W.Frag} {B : Hp} {as : List Addr} : ∀ {vs : List V} {ds : List Dat}, Reps K B vs ds → RepSs K B as vs (ds.map Sl.d)
  | _, _, .nil => .nil
  | _, _, .cons h r => .cons h (RepSs.mapd r)
/-- *xs in a display, xs a tuple -/
theorem ea_star {K : PySem.W.Frag} {te : TE} {tA : TA} {env : Env1} {S S1 S2 : List Dat} {ds : List Dat} {xs : List Sl} (h : Ev K te env S (.d (.tup ds)) S1) (hr : EvA K tA env S1 xs S2) : EvA K (tStar K te tA) env S (ds.map Sl.d ++ xs) S2 := fun B H as σ c g Q q =>
  h B H as σ c g _ fun v B1 H1 c1 e1 r1 => by
    cases r1 with
    | tup h1 q1 => exact ⟨_, _, rfl, .inl (Evl.ex_t c1.ex h1), hr B1 H1 as σ c1 (g.mono e1.ex) _ fun vs B2 H2 c2 e2 r2 => q _ B2 H2 c2 (e1.trans e2) ((RepSs.mapd (q1.mono e2.ex)).append r2)⟩
end RW

set_option Elab.async false
set_option linter.all false
set_option maxRecDepth 100000
set_option maxHeartbeats 4000000
namespace RW
open PySem PySem.Spec PyProof.Rows L2
open Evl (Ex)
section
variable {K : PySem.W.Frag} {n : Nat} {te ta tb tc to ti tv : TE} {env env' : Env1} {S S1 S2 S3 : List Dat} {x y z : Sl} {d e : Dat} {ds es : List Dat} {P P' : Post} {t u : TS}
  {B B0 B1 B2 B' H H0 H1 H2 H' : Hp} {as as0 as1 : List Addr} {D : Ends} {σ : L2.St} {j k : Nat}
/-- (y, xs) with xs a new list that will be changed -/
theorem sp_pairVC (hv : Ev K ta env S y S1) (h : EvN K tb env S1 ds S2) (q : SP K n u ((env.set j (some y)).set k (some (.c S2.length))) (S2 ++ [.lst ds]) P) :
    SP K n (tSeq (tAsg (tTup (tCons ta (tCons tb tNil))) (gTup K 2 (gCons (gName j) (gCons (gName k) gNil)))) u) env S P := fun B0 H0 as0 Bk B H as σ hl f c g D m =>
  hv B H as σ c g _ fun w B1 H1 c1 e1 r1 => h B1 H1 as σ c1 (g.mono e1.ex) _ fun p B2 H2 vs c2 e2 hp hb h2 r2 => ⟨by show 2 ≤ sizeLine; decide, fun t ht => by
    have hpa : p ∉ as := hp.1
    have c3 := c2.new (o := .tup [w, .ref p]) ht
    have e3 := Evo.new (o := .tup [w, .ref p]) c2 ht
    have e03 := (e1.trans e2).trans e3
    have npt : p ≠ t := by rintro rfl; rw [ht] at h2; cases h2
    refine ⟨t, _, rfl, Evl.st_of upd_same, rfl, _, _, rfl, _, _, rfl, rfl, ?_⟩
    refine q B0 H0 as0 Bk _ _ (as ++ [p]) _ hl ((f.step e03).push (f.evo.oldN (e1.oldN hp.2))) (c3.push (by rw [upd_ne npt]; exact hb) hpa (.ofL (by rw [upd_ne npt]; exact h2) (r2.mono e3.ex))) ((((g.mono e03.ex).grow).set j (((r1.mono e2.ex).mono e3.ex).grow)).set (s := .c S2.length) k ?_) D m
    exact ⟨p, by rw [← c2.len]; simp, rfl⟩⟩
/-- xs[i] = e, last of its block -/
theorem sp_setitem1 {j : Nat} {iv : Int} (h : Ev K te env S (.d d) S1) (ho : Ev K to env S1 (.c k) S2) (hi : Ev K ti env S2 (.d (.int iv)) S3) (hs : S3[k]? = some (.lst ds)) (hj : ixN ds.length iv = some j) (q : P.nx env (S3.set k (.lst (ds.set j d)))) :
    SP K n (tAsg te (gSub to ti rSetL)) env S P := fun B0 H0 as0 Bk B H as σ hl f c g D m =>
  h B H as σ c g _ fun v B1 H1 c1 e1 r1 => ho B1 H1 as σ c1 (g.mono e1.ex) _ fun w B2 H2 c2 e2 r2 => hi B2 H2 as σ c2 (g.mono (e1.trans e2).ex) _ fun w3 B3 H3 c3 e3 r3 => by
    obtain ⟨p, hp, rfl⟩ := r2
    cases r3
    obtain ⟨vs, hv, rv⟩ := (c3.cells k p _ hp hs).2.lst
    have e03 := ((e1.trans e2).trans e3).trans (Evo.setc (o := .lst (vs.set j v)) (List.mem_of_getElem? hp) hv (fun _ z => nomatch z))
    exact ⟨p, vs, iv, j, rfl, rfl, hv, by rw [rv.length]; exact hj, m.nx _ _ B3 _ as σ (f.step e03) (c3.setc hp (show CellO K B3 (.lst _) (.lst _) from Reps.set j (Rep.mono (e2.trans e3).ex r1) rv)) (g.mono e03.ex) q⟩
theorem reps_ints : ∀ ns : List Int, Reps K B (ns.map V.int) (ns.map Dat.int)
  | [] => .nil
  | i :: r => .cons (.int i) (reps_ints r)
theorem reps_rg {a b : Int} : Reps K B (rgV a b) ((List.range (b - a).toNat).map fun i => Dat.int (a + (i : Nat))) := by
  have := reps_ints (K := K) (B := B) ((List.range (b - a).toNat).map fun i => a + ((i : Nat) : Int))
  rw [List.map_map, List.map_map] at this
  exact this
/-- list(range(m)) -/
theorem en_rg1 {m : Nat} (h : Ev K te env S (.d (.int m)) S1) (hm : m ≤ 1000) : EvN K (tLstRg (tRg1 te)) env S ((List.range m).map fun i => Dat.int (i : Nat)) S1 := fun B H as σ c g Q q =>
  h B H as σ c g _ fun v B1 H1 c1 e1 r1 => by
    cases r1
    have e : ((List.range m).map fun i => Dat.int (i : Nat)) = (List.range ((m : Int) - 0).toNat).map fun i => Dat.int (0 + (i : Nat)) := by
      rw [show ((m : Int) - 0).toNat = m by omega]
      exact List.map_congr_left fun i _ => by rw [Int.zero_add]
    rw [e] at q
    exact ⟨_, rfl, RgOk.of_le (by omega) (by omega) (by omega) (by omega), fun p hp => evn_new c c1 e1 hp reps_rg q⟩
/-- list(range(a, a + k)) -/
theorem en_rg2 {a k : Nat} {b : Int} (h : Ev K ta env S (.d (.int a)) S1) (hb : Ev K tb env S1 (.d (.int b)) S2) (e : b = (a : Int) + (k : Nat)) (hm : a + k ≤ 1000) : EvN K (tLstRg (tRg2 ta tb)) env S ((List.range' a k).map fun i => Dat.int (i : Nat)) S2 := fun B H as σ c g Q q =>
  h B H as σ c g _ fun v B1 H1 c1 e1 r1 => hb B1 H1 as σ c1 (g.mono e1.ex) _ fun w B2 H2 c2 e2 r2 => by
    cases r1
    cases r2
    have e : ((List.range' a k).map fun i => Dat.int (i : Nat)) = (List.range (b - (a : Int)).toNat).map fun i => Dat.int ((a : Int) + (i : Nat)) := by
      rw [show (b - (a : Int)).toNat = k by omega, List.range'_eq_map_range, List.map_map]
      exact List.map_congr_left fun i _ => by show Dat.int ((a + i : Nat) : Int) = _; rw [Int.natCast_add]
    rw [e] at q
    exact ⟨_, _, rfl, rfl, RgOk.of_le (by omega) (by omega) (by omega) (by omega), fun p hp => evn_new c c2 (e1.trans e2) hp reps_rg q⟩
end
end RW

set_option Elab.async false
set_option linter.all false
set_option maxRecDepth 100000
set_option maxHeartbeats 4000000
namespace RwS
open PySem PySem.Spec PyProof.Rows L2
/-! ### rows of integers, in Python's order -/
def lx : List Int → List Int → Bool
  | a :: r, b :: q => decide (a < b) || (decide (a = b) && lx r q)
  | _, _ => false
theorem lx_cons {a b : Int} {r q : List Int} : lx (a :: r) (b :: q) = true ↔ a < b ∨ (a = b ∧ lx r q = true) := by
  show (decide (a < b) || (decide (a = b) && lx r q)) = true ↔ _
  simp
theorem lx_eq {p : Int} {r q : List Int} : lx (p :: r) (p :: q) = lx r q := by
  show (decide (p < p) || (decide (p = p) && lx r q)) = _
  simp
theorem lx_ne {p u : Int} {r q : List Int} (e : p ≠ u) : lx (p :: r) (u :: q) = decide (p < u) := by
  show (decide (p < u) || (decide (p = u) && lx r q)) = _
  simp [e]
theorem lx_irr : ∀ r : List Int, lx r r = false
  | [] => rfl
  | a :: r => by
    cases h : lx (a :: r) (a :: r) with
    | false => rfl
    | true =>
      rcases lx_cons.mp h with z | ⟨_, z⟩
      · omega
      · rw [lx_irr r] at z; cases z
theorem lx_trans : ∀ {x y z : List Int}, lx x y = true → lx y z = true → lx x z = true
  | a :: r, b :: q, c :: t, h1, h2 => by
    rcases lx_cons.mp h1 with p | ⟨p, p'⟩ <;> rcases lx_cons.mp h2 with q' | ⟨q', q''⟩
    · exact lx_cons.mpr (.inl (by omega))
    · exact lx_cons.mpr (.inl (by omega))
    · exact lx_cons.mpr (.inl (by omega))
    · exact lx_cons.mpr (.inr ⟨by omega, lx_trans p' q''⟩)
  | [], _, _, h1, _ => by simp [lx] at h1
  | _ :: _, [], _, h1, _ => by simp [lx] at h1
  | _ :: _, _ :: _, [], _, h2 => by simp [lx] at h2
theorem lx_tri : ∀ {x y : List Int}, x.length = y.length → lx x y = true ∨ x = y ∨ lx y x = true
  | [], [], _ => .inr (.inl rfl)
  | a :: r, b :: q, h => by
    rcases Int.lt_trichotomy a b with z | z | z
    · exact .inl (lx_cons.mpr (.inl z))
    · subst z
      rcases lx_tri (x := r) (y := q) (by simpa using h) with w | w | w
      · exact .inl (lx_cons.mpr (.inr ⟨rfl, w⟩))
      · exact .inr (.inl (by rw [w]))
      · exact .inr (.inr (lx_cons.mpr (.inr ⟨rfl, w⟩)))
    · exact .inr (.inr (lx_cons.mpr (.inl z)))
  | [], _ :: _, h => by simp at h
  | _ :: _, [], h => by simp at h
def rk (L : List (List Int)) (x : List Int) : Nat := (L.filter fun y => lx y x).length
theorem filt_le {α : Type} (p q : α → Bool) : ∀ L : List α, (∀ y ∈ L, p y = true → q y = true) → (L.filter p).length ≤ (L.filter q).length
  | [], _ => Nat.le_refl _
  | a :: L, h => by
    have ih := filt_le p q L fun y hy => h y (List.mem_cons_of_mem _ hy)
    rw [List.filter_cons, List.filter_cons]
    cases hp : p a with
    | true => rw [h a List.mem_cons_self hp]; simpa using ih
    | false =>
      cases q a with
      | true => simp; omega
      | false => simpa using ih
theorem filt_lt {α : Type} (p q : α → Bool) : ∀ L : List α, (∀ y ∈ L, p y = true → q y = true) → (∃ y ∈ L, p y = false ∧ q y = true) → (L.filter p).length < (L.filter q).length
  | [], _, h => by obtain ⟨y, hy, _⟩ := h; cases hy
  | a :: L, h, he => by
    have hL : ∀ y ∈ L, p y = true → q y = true := fun y hy => h y (List.mem_cons_of_mem _ hy)
    have le := filt_le p q L hL
    rw [List.filter_cons, List.filter_cons]
    obtain ⟨y, hy, h1, h2⟩ := he
    rcases List.mem_cons.mp hy with rfl | hy
    · rw [h1, h2]; simp; omega
    · have ih := filt_lt p q L hL ⟨y, hy, h1, h2⟩
      cases hp : p a with
      | true => rw [h a List.mem_cons_self hp]; simpa using ih
      | false =>
        cases q a with
        | true => simp; omega
        | false => simpa using ih
theorem rk_lt {L : List (List Int)} {x y : List Int} (hx : x ∈ L) (hl : x.length = y.length) : lx x y = true ↔ rk L x < rk L y := by
  constructor
  · intro h
    exact filt_lt _ _ L (fun z _ hz => lx_trans hz h) ⟨x, hx, lx_irr x, h⟩
  · intro h
    rcases lx_tri hl with z | z | z
    · exact z
    · subst z; omega
    · have := filt_le (fun w => lx w y) (fun w => lx w x) L fun w _ hw => lx_trans hw z
      unfold rk at h
      omega
section
variable {prog : Program} {w : World} {A : Around} {E : Value → Shared → Prop} {s : Shared}
theorem lex_go {Q : Bool → Shared → Prop} {b : Bool} : ∀ {xs ys : List Value} {ns ms : List Int} (i : Nat), IntsAre xs ns → IntsAre ys ms → ns.length = ms.length → Q (lx ns ms) s → PySem.W.KatLex prog w A b false Q (xs.zip ys) i s
  | _, _, _, _, i, .nil, .nil, _, h => PySem.W.kat_nil h
  | _, _, _, _, i, .cons p t hx, .cons q u hy, hl, h => by
    refine PySem.W.kat_cons (wpAny_eqBool_int ?_)
    by_cases e : p = q
    · subst e
      rw [beq_self_eq_true]
      refine PySem.W.kat_yes (lex_go (i + 1) hx hy (by simpa using hl) ?_)
      rw [lx_eq] at h
      exact h
    · rw [show (p == q) = false from beq_eq_false_iff_ne.mpr e]
      refine PySem.W.kat_no (TS.oneLt_ints _ ?_)
      rw [lx_ne e] at h
      exact h
  | _, _, _, _, _, .nil, .cons _ _ _, hl, _ => by simp at hl
  | _, _, _, _, _, .cons _ _ _, .nil, hl, _ => by simp at hl
def Tups (h : Heap) (d : Nat) (vs : List Value) : Prop := ∀ v ∈ vs, ∃ ns, TS.TupInts h v ns ∧ ns.length = d
theorem Tups.keeps {h h' : Heap} {d : Nat} {vs : List Value} (x : Tups h d vs) (k : ∀ b o, h.get? b = some o → o.cls = .type "tuple" → h'.get? b = some o) : Tups h' d vs := fun v hv => by
  obtain ⟨ns, t, l⟩ := x v hv
  exact ⟨ns, t.keeps k, l⟩
theorem firsts {h : Heap} {d : Nat} (hd : 1 ≤ d) : ∀ vs : List Value, Tups h d vs → ∃ fs, PySem.W.KatTups h vs fs ∧ fs.length = vs.length ∧ ∀ f ∈ fs, ∃ n t, f = Value.int n t
  | [], _ => ⟨[], PySem.W.KatTups.nil, rfl, fun f hf => by cases hf⟩
  | v :: vs, x => by
    obtain ⟨fs, k, l, z⟩ := firsts hd vs fun u hu => x u (List.mem_cons_of_mem _ hu)
    obtain ⟨ns, ⟨a, xs, rfl, ⟨o, ho, hc, n, hdt⟩, i⟩, hl⟩ := x v List.mem_cons_self
    cases hx : xs.toList with
    | nil => rw [hx] at i; cases i; simp at hl; omega
    | cons u us =>
      rw [hx] at i
      cases i with
      | cons m t i =>
        refine ⟨.int m t :: fs, ?_, by simp [l], fun f hf => ?_⟩
        · exact ⟨⟨a, o, xs, n, rfl, ho, hc, hdt, by rw [← Array.getElem?_toList, hx]; rfl⟩, k⟩
        · rcases List.mem_cons.mp hf with rfl | hf
          · exact ⟨m, t, rfl⟩
          · exact z f hf
/-- what sorting is told of a list of tuples of d integers -/
theorem kind_go {d : Nat} {vs : List Value} (hd : 1 ≤ d) (h2 : 2 ≤ vs.length) (x : Tups s.heap d vs) (r : Value → Int)
    (hr : ∀ u ∈ vs, ∀ v ∈ vs, ∀ ns ms, TS.TupInts s.heap u ns → TS.TupInts s.heap v ms → (lx ns ms = true ↔ r u < r v))
    (Q : SortKind → Shared → Prop) (h : ∀ κ, TS.Cmp prog w A s κ (pairsOf vs) r → Q κ s) : wpAny (model prog w) A (keyKind' vs.toArray) Q E s := by
  obtain ⟨fs, k, hl, hi⟩ := firsts hd vs x
  refine PySem.W.kat_kind (T := .type "int") k (by omega) (fun f hf => ?_) rfl (h _ fun p q hp hq Q' E' hQ => ?_)
  · obtain ⟨n, t, rfl⟩ := hi f hf
    exact .of_pure rfl
  · rw [pairsOf_toList] at hp hq
    have mp := (mem_zip_self hp).2
    have mq := (mem_zip_self hq).2
    obtain ⟨ns, tp, lp⟩ := x p.1 mp
    obtain ⟨ms, tq, lq⟩ := x q.1 mq
    have hlt : decide (r p.1 < r q.1) = lx ns ms := by
      have := hr p.1 mp q.1 mq ns ms tp tq
      cases e : lx ns ms with
      | true => exact decide_eq_true (this.mp e)
      | false => exact decide_eq_false fun z => by rw [this.mpr z] at e; cases e
    rw [hlt] at hQ
    obtain ⟨a, xs, e1, ⟨o, ho, hc, n, hdt⟩, i1⟩ := tp
    obtain ⟨b, ys, e2, ⟨o', ho', hc', n', hdt'⟩, i2⟩ := tq
    rw [e1, e2]
    have hs : xs.size = ys.size := by
      have := i1.length
      have := i2.length
      simp at *
      omega
    refine PySem.W.kat_lt ho hdt ho' hdt' ?_
    rw [hs, decide_eq_false (Nat.lt_irrefl _)]
    exact lex_go 0 i1 i2 (by omega) hQ
/-- xs.sort() -/
theorem sort_go {a : Addr} {vs : List Value} {n d : Nat} {P : Fin → Shared → Prop} (ho : s.heap.get? a = some (seqObj "list" vs.toArray n)) (h64 : vs.length < 64) (hd : 1 ≤ d) (x : Tups s.heap d vs)
    (h : ∀ out : Array Value, out.toList.Perm vs → (∃ L : Value → List Int, (∀ v ∈ vs, TS.TupInts s.heap v (L v)) ∧ out.toList.Pairwise fun u v => lx (L v) (L u) = false) →
      P (.done (.ret .none)) { s with heap := sortedHeap s.heap a vs out }) : wpAny (model prog w) A (Builtin.«list.sort» ⟨[.ref a], []⟩) P E s := by
  have keep : ∀ b o, s.heap.get? b = some o → o.cls = .type "tuple" → (TS.midHeap s.heap a vs).get? b = some o := fun b o e hc => TS.midHeap_old (by
    rintro rfl
    rw [ho] at e
    cases e
    exact absurd (Value.type.inj hc) (by decide)) e
  have hT : ∀ v ∈ vs, TS.TupInts s.heap v (TS.intsOf s.heap v) ∧ (TS.intsOf s.heap v).length = d := fun v hv => by
    obtain ⟨ns, t, l⟩ := x v hv
    rw [t.ints]
    exact ⟨t, l⟩
  refine SK.plain_sort (r := fun v => (rk (vs.map (TS.intsOf s.heap)) (TS.intsOf s.heap v) : Int)) ho h64 (fun h2 Q hQ => kind_go hd h2 (x.keeps keep) _ (fun u hu v hv ns ms tu tv => ?_) Q hQ) fun ps out e1 e2 e3 => ?_
  · have e1 : TS.intsOf s.heap u = ns := by
      have := ((hT u hu).1.keeps keep).ints
      rw [← this, tu.ints]
    have e2 : TS.intsOf s.heap v = ms := by
      have := ((hT v hv).1.keeps keep).ints
      rw [← this, tv.ints]
    rw [← e1, ← e2, rk_lt (List.mem_map.mpr ⟨u, hu, rfl⟩) (by rw [(hT u hu).2, (hT v hv).2])]
    exact (Int.ofNat_lt).symm
  · obtain ⟨p, o⟩ := TS.out_rank (r := fun v => (rk (vs.map (TS.intsOf s.heap)) (TS.intsOf s.heap v) : Int)) e1 e2 e3
    refine h out p ⟨TS.intsOf s.heap, fun v hv => (hT v hv).1, o.imp_of_mem fun {u v} hu hv le => ?_⟩
    cases e : lx (TS.intsOf s.heap v) (TS.intsOf s.heap u) with
    | false => rfl
    | true =>
      have hu' := p.mem_iff.mp hu
      have hv' := p.mem_iff.mp hv
      have := (rk_lt (L := vs.map (TS.intsOf s.heap)) (List.mem_map.mpr ⟨v, hv', rfl⟩) (by rw [(hT u hu').2, (hT v hv').2])).mp e
      omega
end
end RwS

set_option Elab.async false
set_option linter.all false
set_option maxRecDepth 100000
set_option maxHeartbeats 4000000
namespace RwS
open PySem PySem.Spec PyProof.Rows L2
theorem ints_vals : ∀ {its : List Value} {ns : List Int}, Vals (ns.map V.int) its → IntsAre its ns
  | _, [], .nil => .nil
  | _, n :: ns, .cons r rr => by
    obtain ⟨t, rfl⟩ := r
    exact .cons n t (ints_vals rr)
def rSortedDT : List V → Hp → VK → Prop := fun vs H Q => ∃ (a : Addr) (kvs : List (List L2.Key × V)) (ks : List (List Int)) (d : Nat), vs = [V.ref a] ∧ H a = some (.dT kvs) ∧ kvs.map (·.1) = ks.map (fun k => k.map Sum.inl) ∧ 1 ≤ d ∧ (∀ k ∈ ks, k.length = d) ∧ ks.length < 64 ∧
  ∀ (L : List (Addr × List Int)) (p : Addr), (∀ q ∈ L, H q.1 = some (.tup (q.2.map V.int))) → (L.map (·.2)).Perm ks → L.Pairwise (fun x y => lx y.2 x.2 = false) → H p = none → Q (.ref p) (upd H p (.lst (L.map fun q => .ref q.1)))
theorem zip_keys {γ : Type} {R : (List L2.Key × V) → γ → Prop} (g : γ → Addr) {H : Hp} (hR : ∀ p q, R p q → H (g q) = some (.tup (p.1.map kV))) : ∀ {kvs : List (List L2.Key × V)} {xs : List γ} {ks : List (List Int)}, Paired R kvs xs → kvs.map (·.1) = ks.map (fun k => k.map Sum.inl) →
    ∃ L : List (Addr × List Int), L.map (·.1) = xs.map g ∧ L.map (·.2) = ks ∧ ∀ q ∈ L, H q.1 = some (.tup (q.2.map V.int))
  | _, _, [], .nil, _ => ⟨[], rfl, rfl, fun q hq => by cases hq⟩
  | _, _, _ :: _, .nil, e => by simp at e
  | _, _, [], .cons _ _, e => by simp at e
  | p :: kvs, x :: xs, k :: ks, .cons h hr, e => by
    have e1 : p.1 = k.map Sum.inl := (List.cons.inj e).1
    have e2 : kvs.map (·.1) = ks.map (fun k => k.map Sum.inl) := (List.cons.inj e).2
    obtain ⟨L, l1, l2, l3⟩ := zip_keys g hR hr e2
    refine ⟨(g x, k) :: L, by simp [l1], by simp [l2], fun q hq => ?_⟩
    rcases List.mem_cons.mp hq with rfl | hq
    · have := hR _ _ h
      rw [e1, List.map_map] at this
      exact this
    · exact l3 q hq
theorem perm_lift : ∀ {out : List Value} {L : List (Addr × List Int)}, out.Perm (L.map fun q => Value.ref q.1) → ∃ L' : List (Addr × List Int), out = L'.map (fun q => Value.ref q.1) ∧ L'.Perm L := fun {out L} h => by
  generalize e : (L.map fun q => Value.ref q.1) = M at h
  induction h generalizing L with
  | nil => exact ⟨[], rfl, by rw [List.map_eq_nil_iff.mp e]⟩
  | cons x h ih =>
    cases L with
    | nil => cases e
    | cons q L =>
      obtain ⟨e1, e2⟩ := List.cons.inj e
      obtain ⟨L', e3, e4⟩ := ih e2
      exact ⟨q :: L', by rw [← e1, e3]; rfl, e4.cons q⟩
  | swap x y l =>
    cases L with
    | nil => cases e
    | cons q L =>
      cases L with
      | nil => cases e
      | cons r L =>
        obtain ⟨e1, e2⟩ := List.cons.inj e
        obtain ⟨e2, e3⟩ := List.cons.inj e2
        exact ⟨r :: q :: L, by rw [← e1, ← e2, ← e3]; rfl, .swap q r L⟩
  | trans h1 h2 ih1 ih2 =>
    obtain ⟨L2, e1, e2⟩ := ih2 e
    obtain ⟨L1, e3, e4⟩ := ih1 e1.symm
    exact ⟨L1, e3, e4.trans e2⟩
theorem cr_sortedDT {X : Cx} (hc : X.calm = true) : CallR X (.builtin "sorted") rSortedDT := by
  intro pins s σ H vs us Q I r h
  obtain ⟨a, kvs, ks, d, rfl, ha, hks, hd, hlen, h64, q⟩ := h
  rw [Vals.ref1 r]
  obtain ⟨z, hs, xs, pr, o, es, ep, ho, hx, hdt, he, hn⟩ := I.hok a _ ha
  obtain ⟨L, l1, l2, l3⟩ := zip_keys (fun x => x.2.1) (H := H) (fun p x hp => hp.2.1) pr hks
  have hsz : es.size = xs.length := size_of_entries he
  have hLl : L.length = xs.length := by have := congrArg List.length l1; simpa using this
  have hLk : L.length = ks.length := by have := congrArg List.length l2; simpa using this
  refine Calls.call_function_entry kind_sorted plain_sorted entry_sorted (args_sorted1 (.ref a)) ?_
  refine id (wpAny_bind (wpAny_pure (wpAny_bind (PySem.W.kdu_collect (kdl_raw hs hx hdt) (I.ok.hd hc) ho (by rw [hsz, ← hLl, hLk, sizeLine_eq]; omega) fun h' tk acc hk hacc => ?_))))
  have hacc2 : acc.toList = L.map fun q => Value.ref q.1 := by
    have e1 : (L.map fun q => Value.ref q.1) = (xs.map fun x => x.2.1).map Value.ref := by
      rw [← l1, List.map_map]; rfl
    rw [e1, List.map_map]
    refine List.ext_getElem? fun j => ?_
    obtain ⟨ha1, ha2⟩ := hacc
    cases e : acc[j]? with
    | none =>
      have : acc.size ≤ j := Array.getElem?_eq_none_iff.mp e
      rw [Array.getElem?_toList, e, List.getElem?_eq_none]
      rw [List.length_map]; omega
    | some v =>
      obtain ⟨en, h1, h2⟩ := ha2 j v e
      rw [Array.getElem?_toList, e]
      have h3 : es.toList[j]? = some en := by rw [Array.getElem?_toList]; exact h1
      rw [he, List.getElem?_map] at h3
      rw [List.getElem?_map]
      cases e4 : xs[j]? with
      | none => rw [e4] at h3; cases h3
      | some x =>
        rw [e4] at h3
        cases h3
        rw [h2]; rfl
  have I1 : Inv X pins σ H { s with heap := h', toks := tk } := I.kept (t' := tk) hk
  have tups : Tups h' d acc.toList ∧ ∀ q ∈ L, TS.TupInts h' (.ref q.1) q.2 := by
    have key : ∀ q ∈ L, TS.TupInts h' (.ref q.1) q.2 := fun q hq => by
      obtain ⟨_, its, rv, p⟩ := I1.hok q.1 _ (l3 q hq)
      exact ⟨q.1, its.toArray, rfl, p, ints_vals rv⟩
    refine ⟨fun v hv => ?_, key⟩
    rw [hacc2] at hv
    obtain ⟨q, hq, rfl⟩ := List.mem_map.mp hv
    exact ⟨q.2, key q hq, hlen _ (by rw [← l2]; exact List.mem_map.mpr ⟨q, hq, rfl⟩)⟩
  have hal : acc.toList.length = L.length := by rw [hacc2, List.length_map]
  refine wpAny_bind (wpAny_newList ?_ (by rw [hal, hLk, sizeLine_eq]; omega))
  have hoL : (h'.push { cls := Value.type "list", data := Data.seq acc.toList.toArray }).get? h'.objs.size = some (seqObj "list" acc.toList.toArray 0) := Heap.get?_push_size _ rfl
  have hp1 : ∀ b o, h'.get? b = some o → (h'.push { cls := Value.type "list", data := Data.seq acc.toList.toArray }).get? b = some o := fun b o e => Heap.get?_push_of_some _ e
  refine wpAny_bind (wpAny_holding (wpAny_call_entry slot_list_sort ⟨_, hoL, rfl⟩ entry_list_sort (sort_go hoL (by rw [hal, hLk]; exact h64) hd (tups.1.keeps fun b o e _ => hp1 b o e) fun out pm po => ⟨.none, rfl, wpAny_pure ⟨.ref h'.objs.size, rfl, ?_⟩⟩) (args_list_sort (.ref h'.objs.size))))
  obtain ⟨L', e1, e2⟩ := perm_lift (hacc2 ▸ pm)
  have hn1 : H h'.objs.size = none := I1.hok.fresh (Nat.le_refl _)
  obtain ⟨ep', hg⟩ := sortedHeap_at (out := out) hoL
  have k : ∀ b o, h'.get? b = some o → (sortedHeap (h'.push { cls := Value.type "list", data := Data.seq acc.toList.toArray }) h'.objs.size acc.toList out).get? b = some o := fun b o e => by
    have hb := Heap.lt_size e
    rw [sortedHeap_old (Nat.ne_of_lt hb) (Nat.lt_of_lt_of_le hb (by rw [PyProof.Rows.size_push']; exact Nat.le_succ _))]
    exact hp1 b o e
  have hlen' : (L'.map fun q => V.ref q.1).length ≤ sizeLine := by rw [List.length_map, e2.length_eq, hLk, sizeLine_eq]; omega
  have hv : Vals (L'.map fun q => V.ref q.1) out.toList := by rw [e1]; exact vals_of_refs L'
  have J := Inv.call (ch := []) (d' := s.drawn) (t' := tk) I1 (Un.laid k (Nat.le_refl _) hn1) (HOk.laid (o := .lst (L'.map fun q => V.ref q.1)) I1.hok k (Nat.le_refl _) ⟨hlen', out.toList, ep', hv, hg⟩) I1.bare (fun x z => by cases z)
  refine ⟨.ref h'.objs.size, _, J, rfl, q L' _ (fun r hr => l3 r (e2.mem_iff.mp hr)) (by rw [← l2]; exact e2.map _) ?_ hn1⟩
  obtain ⟨g, g1, g2⟩ := po
  rw [e1] at g2
  refine (List.pairwise_map.mp g2).imp_of_mem fun {x y} hx hy hxy => ?_
  have gx : ∀ z ∈ L', g (.ref z.1) = z.2 := fun z hz => by
    have hz' := e2.mem_iff.mp hz
    have t1 := g1 (.ref z.1) (by rw [hacc2]; exact List.mem_map.mpr ⟨z, hz', rfl⟩)
    have t2 := (tups.2 z hz').keeps (h' := h'.push { cls := Value.type "list", data := Data.seq acc.toList.toArray }) fun b o e _ => hp1 b o e
    exact t1.ints.symm.trans t2.ints
  rw [gx x hx, gx y hy] at hxy
  exact hxy
end RwS

set_option Elab.async false
set_option linter.all false
set_option maxRecDepth 100000
set_option maxHeartbeats 4000000
namespace RwS
open PySem PySem.Spec PyProof.Rows L2 CwR
/-! ### where some object has been made before: text.replace -/
def PTt (X : Cx) (e : Expr) (t : TT) : Prop := ∀ (pins : List (Addr × Obj)) (s : Shared) (σ : L2.St) (H : Hp) (Q : Bool → Hp → Prop), 1 ≤ s.toks → Inv X pins σ H s → t σ H Q → wpAny (model X.prog X.w) X.A (PySem.isTrue e X.env (eval e X.env)) (TP X pins σ Q) X.xe s
def PTg (X : Cx) (e : Expr) (t : TT) : Prop := ∀ (pins : List (Addr × Obj)) (s : Shared) (σ : L2.St) (H : Hp) (Q : Bool → Hp → Prop), Inv X pins σ H s → t σ H Q → wpAny (model X.prog X.w) X.A (PySem.isTrue e X.env (eval e X.env)) (fun b s' => TP X pins σ Q b s' ∧ 1 ≤ s'.toks) X.xe s
def PEg (X : Cx) (e : Expr) (t : TE) : Prop := ∀ (pins : List (Addr × Obj)) (s : Shared) (σ : L2.St) (H : Hp) (Q : VK), Inv X pins σ H s → t σ H Q → wpAny (model X.prog X.w) X.A (eval e X.env) (fun v s' => EP X pins σ Q v s' ∧ 1 ≤ s'.toks) X.xe s
section
variable {X : Cx} {a b e o : Expr} {ta tb : TT} {te to : TE} {pos : Pos}
theorem petT_bm0 {name : Str} {apos cpos : Pos} {T id : String} {r : V → List V → Hp → VK → Prop} (pa : PlainAttrs T) (slot : Slot T name id) (hty : typeOf (.builtin id) = pure (.type "method_descriptor")) (hm : MtR X id r) (ho : PET X o to)
    (hbase : attributeBase o name X.env (eval o X.env) = eval o X.env := by rfl) (hline : (apos.endLine == cpos.line) = true := by rfl) : PET X ((o.Attribute name apos).Call [] [] cpos) (tBM0 X.K T r to) := fun pins s σ H Q h0 I h =>
  wpAny_Call_method0_late hbase hline (thn (ho pins s σ H (fun x H1 => tyV X.K T x H1 ∧ r x [] H1 Q) h0 I h) fun v s1 ⟨x, H1, I1, r1, ty, q1⟩ => by
    obtain ⟨h1, h2⟩ := tyV_is I1 r1 ty
    exact ⟨T, id, pa, slot, hty, h1, h2, Calls.callWith_builtin rfl (PySem.evalArgs_none (hm pins s1 σ H1 x [] v [] Q I1 r1 .nil q1))⟩)
theorem ptT_tru (ha : PET X a te) (he : ∀ whole, PySem.isTrue a X.env whole = (do let v ← whole; standAt a.pos; holding [v] (truthy v)) := by intro _; rfl) : PTt X a (RW.tTru X.K te) := fun pins s σ H Q h0 I h =>
  isTrue_plain (thn (ha pins s σ H (fun x H' => ∃ k, TruV X.K x H' k ∧ Q k H') h0 I h) fun v s1 ⟨x, H1, I1, r1, q1⟩ => tru_ok pins s1 σ H1 x v Q I1 r1 q1) (he _)
theorem ptT_not (ha : PTt X a ta) : PTt X (.UnaryOp .Not a pos) (tNot ta) := fun pins s σ H Q h0 I h => isTrue_not (ha pins s σ H (fun c H1 => Q (!c) H1) h0 I h)
theorem ptT_or (ha : PT X a ta) (hb : PTt X b tb) : PTt X (.BoolOp .Or [a, b] pos) (tOr ta tb) := fun pins s σ H Q h0 I h =>
  isTrue_or (wpAny_mono (wpAny_toks (ha.run pins s σ H _ I h)) (fun c s1 ⟨hk, H1, I1, q1⟩ => by
    cases c with
    | true => exact ⟨H1, I1, q1⟩
    | false =>
      refine isTrue_or (thn (hb pins s1 σ H1 Q (Nat.le_trans h0 hk) I1 q1) fun c s2 z => ?_)
      cases c with
      | true => exact z
      | false => exact isTrue_or_nil z) fun _ _ z => z.2)
/-- len(x), x a text: an integer is made -/
def rLenS : List V → Hp → VK → Prop := fun xs H Q => ∃ z, xs = [V.str z] ∧ z.length ≤ sizeLine ∧ Q (.int z.length) H
theorem call_lenS {X : Cx} : CallR X (.builtin "len") rLenS := call_len_str
theorem peg_len {p : Pos} {tA : TA} (hg : Gl X "len") (hm : X.mg "len" = none) (ha : PA X [e] tA) (hs : starEach [e] X.env = (false, eval e X.env) :: starEach [] X.env := by rfl) (hpl : ((backTo pos (starEach [] X.env)).any fun x => x.1) = false := by rfl) :
    PEg X (.Call (.Name "len" p) [e] [] pos) (tCB rLenS tA) := fun pins s σ H Q I h => by
  refine wpAny_Call_Name_kw (ld_blt I hg hm boot_len (callWith_builtin1 (thn (ha.run pos pins s σ H (fun vs H1 => rLenS vs H1 Q) I h) fun us s1 ⟨vs, H1, I1, r1, z, e1, hz, q1⟩ => ?_) hs hpl) (by decide) (by decide))
  subst e1
  cases r1 with
  | cons r1 rr =>
    cases rr
    obtain ⟨t, rfl⟩ := r1
    exact len_str (by have := line63; omega) ⟨⟨.int z.length, H1, I1.tok _, ⟨_, rfl⟩, q1⟩, by simp⟩
theorem ptg_cmp {op : CmpOp} {r : R2} {ta tb : TE} (ho : OpR X (compareOp op) r) (ha : PEg X a ta) (hb : PE X b tb) (hm : behindInMarks op b = false) : PTg X (.Compare a [op] [b] pos) (tTest (tOp r ta tb)) := fun pins s σ H Q I h =>
  wpAny_isTrue_Compare1 (thn (ha pins s σ H _ I h) fun v s1 ⟨⟨x, H1, I1, r1, q1⟩, h1⟩ =>
    wpAny_mono (wpAny_toks (hb.run pins s1 σ H1 _ I1 q1)) (fun u s2 ⟨k2, y, H2, I2, r2, q2⟩ =>
      wpAny_mono (wpAny_toks (ho pins s2 σ H2 x y v u _ I2 r1 r2 q2)) (fun c s3 ⟨k3, z, H3, I3, r3, k, e, q3⟩ => by
        subst e
        cases (show c = Value.bool k from r3)
        exact wpAny_truthy_bool ⟨⟨H3, I3, q3⟩, Nat.le_trans h1 (Nat.le_trans k2 k3)⟩) fun _ _ z => z.2) fun _ _ z => z.2) hm
/-- the first is false -/
def tOrF (ta tb : TT) : TT := fun σ H Q => ta σ H fun b H1 => b = false ∧ tb σ H1 Q
theorem ptg_or (ha : PT X a ta) (hb : PTg X b tb) : PTg X (.BoolOp .Or [a, b] pos) (tOrF ta tb) := fun pins s σ H Q I h =>
  isTrue_or (thn (ha.run pins s σ H _ I h) fun c s1 ⟨H1, I1, ec, q1⟩ => by
    subst ec
    refine isTrue_or (thn (hb pins s1 σ H1 Q I1 q1) fun c s2 z => ?_)
    cases c with
    | true => exact z
    | false => exact isTrue_or_nil z)
/-- if test: raise; and what follows, with a token known -/
def tGuard (ta : TT) (t2 : TS) : TS := fun D σ H => ta σ H fun b H1 => b = false ∧ t2 D σ H1
def tGuard1 (ta : TT) : TS := fun D σ H => ta σ H fun b H1 => b = false ∧ D.nx σ H1
theorem pss_guard {t2 : TS} {bd : List Stmt} {rest : List Stmt} (ha : PTg X a ta) (hr : PSsT X rest t2) : PSs X (.If a bd [] pos :: rest) (tGuard ta t2) := ⟨fun pins s σ H D I h =>
  wpAny_execs_cons (wpAny_If (thn (ha pins s σ H _ I h) fun c s1 ⟨⟨H1, I1, ec, q1⟩, h1⟩ => by
    subst ec
    exact wpAny_execs_nil (hr pins s1 σ H1 D h1 I1 q1)))⟩
theorem psst_guard {bd : List Stmt} (ha : PTt X a ta) : PSsT X [.If a bd [] pos] (tGuard1 ta) := fun pins s σ H D h0 I h =>
  wpAny_execs_cons (wpAny_If (thn (ha pins s σ H _ h0 I h) fun c s1 ⟨H1, I1, ec, q1⟩ => by
    subst ec
    exact wpAny_execs_nil (wpAny_execs_nil ⟨σ, H1, I1, q1⟩)))
end
end RwS

set_option Elab.async false
set_option linter.all false
set_option maxRecDepth 100000
set_option maxHeartbeats 4000000
namespace RW
open PySem PySem.Spec PyProof.Rows L2
open Evl (Ex)
section
variable {K : PySem.W.Frag} {n : Nat} {te ta tb tc to ti tv : TE} {tt tu : TT} {tA tR : TA} {env env' : Env1} {S S1 S2 S3 : List Dat} {x y z : Sl} {d e : Dat} {ds es : List Dat} {r r' : R2} {P P' : Post} {t u : TS}
  {B B0 B1 B2 B' H H0 H1 H2 H' : Hp} {as as0 as1 : List Addr} {D : Ends} {σ : L2.St} {i k : Nat} {a b c : Bool} {p q : Str}
/-! ### texts -/
theorem cd_lenT (hl : p.length ≤ sizeLine) : CallD K RwS.rLenS [.d (.str p)] S (.int p.length) S := fun B H as vs c r Q q => by
  cases r with
  | cons r1 rr =>
    cases rr; cases r1
    exact ⟨p, rfl, hl, q _ B H c Evo.refl (.int _)⟩
def rIntS : List V → Hp → VK → Prop := fun xs H Q => ∃ a n, xs = [V.str a] ∧ intText? a = some n ∧ a.length ≤ 640 ∧ Q (.int n) H
theorem call_intS {X : Cx} : CallR X (.type "int") rIntS := call_int_str
theorem cd_intS {j : Int} (h : intText? p = some j) (hl : p.length ≤ 640) : CallD K rIntS [.d (.str p)] S (.int j) S := fun B H as vs c r Q q => by
  cases r with
  | cons r1 rr =>
    cases rr; cases r1
    exact ⟨p, j, rfl, h, hl, q _ B H c Evo.refl (.int _)⟩
/-- x.isdigit() and the like -/
theorem ev_bm0S {f : Str → V} {C : Str → Prop} (h : Ev K to env S (.d (.str p)) S1) (hc : C p) (hd : ∀ B : Hp, Rep K B (f p) d) : Ev K (tBM0 K "str" (fun x xs H Q => ∃ a, x = V.str a ∧ xs = [] ∧ C a ∧ Q (f a) H) to) env S (.d d) S1 := fun B H as σ c g Q q =>
  h B H as σ c g _ fun v B1 H1 c1 e1 r1 => by
    cases r1
    exact ⟨rfl, p, rfl, rfl, hc, q _ B1 H1 c1 e1 (hd B1)⟩
theorem ev_startsS (h : Ev K to env S (.d (.str p)) S1) (hx : EvA K tA env S1 [.d (.str q)] S2) : Ev K (tBM K "str" (fun x xs H Q => ∃ a b, x = V.str a ∧ xs = [V.str b] ∧ Q (.bl (Txt.startswith a b)) H) to tA) env S (.d (.bl (Txt.startswith p q))) S2 := fun B H as σ c g Q k =>
  h B H as σ c g _ fun v B1 H1 c1 e1 r1 => by
    cases r1
    refine ⟨rfl, hx B1 H1 as σ c1 (g.mono e1.ex) _ fun vs B2 H2 c2 e2 r2 => ?_⟩
    cases r2 with
    | cons r2 rr =>
      cases rr; cases r2
      exact ⟨p, q, rfl, rfl, k _ B2 H2 c2 (e1.trans e2) (.bl _)⟩
theorem reps_strs : ∀ ys : List Str, Reps K B (ys.map V.str) (ys.map Dat.str)
  | [] => .nil
  | i :: r => .cons (.str i) (reps_strs r)
theorem en_split (h : Ev K to env S (.d (.str p)) S1) (hx : EvA K tA env S1 [.d (.str q)] S2) (h1 : (q.length == 0) = false) (h2 : p.length + 2 ≤ sizeLine) :
    EvN K (tBM K "str" (fun x xs H Q => ∃ a b, x = V.str a ∧ xs = [V.str b] ∧ (b.length == 0) = false ∧ a.length + 2 ≤ sizeLine ∧ rNewStrs (Txt.split a b) H Q) to tA) env S ((Txt.split p q).map Dat.str) S2 := fun B H as σ c g Q k =>
  h B H as σ c g _ fun v B1 H1 c1 e1 r1 => by
    cases r1
    refine ⟨rfl, hx B1 H1 as σ c1 (g.mono e1.ex) _ fun vs B2 H2 c2 e2 r2 => ?_⟩
    cases r2 with
    | cons r2 rr =>
      cases rr; cases r2
      exact ⟨p, q, rfl, rfl, h1, h2, fun w hw => evn_new c c2 (e1.trans e2) hw (reps_strs _) k⟩
theorem ev_slS {tl th : TO} {lo hi : Option Int} (h : Ev K te env S (.d (.str p)) S1) (hl : EvO K tl env S1 lo S2) (hh : EvO K th env S2 hi S3) (hz : p.length ≤ sizeLine) : Ev K (tSl rSlS te tl th) env S (.d (.str (cutS p lo hi))) S3 := fun B H as σ c g Q q =>
  h B H as σ c g _ fun v B1 H1 c1 e1 r1 => hl B1 H1 as σ c1 (g.mono e1.ex) _ fun B2 H2 c2 e2 => hh B2 H2 as σ c2 (g.mono (e1.trans e2).ex) _ fun B3 H3 c3 e3 => by
    cases r1
    exact ⟨p, rfl, hz, q _ B3 H3 c3 ((e1.trans e2).trans e3) (.str _)⟩
theorem o_eqS : Op2 K rEq (.d (.str p)) (.d (.str q)) S (.bl (decide (p = q))) := fun B H as v w c r1 r2 Q k => by
  cases r1; cases r2
  have e : decide (V.str p = V.str q) = decide (p = q) := by
    by_cases h : p = q
    · subst h; simp
    · simp [h]
  refine ⟨rfl, ?_⟩
  rw [e]
  exact k _ B H c Evo.refl (.bl _)
theorem o_neS : Op2 K rNe (.d (.str p)) (.d (.str q)) S (.bl (!decide (p = q))) := fun B H as v w c r1 r2 Q k => by
  cases r1; cases r2
  have e : decide (V.str p = V.str q) = decide (p = q) := by
    by_cases h : p = q
    · subst h; simp
    · simp [h]
  refine ⟨rfl, ?_⟩
  rw [e]
  exact k _ B H c Evo.refl (.bl _)
/-- None in a list of integers -/
theorem o_inN {ns : List Int} (h : Seq S x (ns.map Dat.int)) : Op2 K (rIn K false) (.d .non) x S (.bl false) := fun B H as v w c r1 r2 Q k => by
  cases r1
  obtain ⟨a, kk, vs, rfl, hq, hr⟩ := h.read c r2
  have e := hr.ints
  subst e
  refine ⟨a, _, rfl, sq_or hq, rfl, ?_, ?_⟩
  · rw [List.all_eq_true]
    intro v hv
    obtain ⟨j, _, rfl⟩ := List.mem_map.mp hv
    rfl
  · have : inV V.non (ns.map V.int) = false := by
      unfold inV
      rw [List.any_eq_false]
      intro v hv
      obtain ⟨j, _, rfl⟩ := List.mem_map.mp hv
      exact fun z => nomatch z
    rw [this]
    exact k _ B H c Evo.refl (.bl _)
/-- x.replace(..) -/
theorem ev_repl {y z : Str} (h : Ev K to env S (.d (.str p)) S1) (hl : p.length + (p.length + 1) * z.length ≤ 16777216) : Ev K (CwR.tReplC to y z) env S (.d (.str (Txt.replace p y z))) S1 := fun B H as σ c g Q q =>
  h B H as σ c g _ fun v B1 H1 c1 e1 r1 => by
    cases r1
    exact ⟨p, rfl, hl, q _ B1 H1 c1 e1 (.str _)⟩
theorem sp_guard (h : EvT K tt env S false S1) (k : SP K n u env S1 P) : SP K n (RwS.tGuard tt u) env S P := fun B0 H0 as0 Bk B H as σ hl f c g D m =>
  h B H as σ c g _ fun B1 H1 c1 e1 => ⟨rfl, k B0 H0 as0 Bk B1 H1 as σ hl (f.step e1) c1 (g.mono e1.ex) D m⟩
theorem sp_guard1 (h : EvT K tt env S false S1) (k : P.nx env S1) : SP K n (RwS.tGuard1 tt) env S P := fun B0 H0 as0 Bk B H as σ hl f c g D m =>
  h B H as σ c g _ fun B1 H1 c1 e1 => ⟨rfl, m.nx env S1 B1 H1 as σ (f.step e1) c1 (g.mono e1.ex) k⟩
theorem et_orF (h1 : EvT K tt env S false S1) (h2 : EvT K tu env S1 b S2) : EvT K (RwS.tOrF tt tu) env S b S2 := fun B H as σ c g Q q =>
  h1 B H as σ c g _ fun B1 H1 c1 e1 => ⟨rfl, h2 B1 H1 as σ c1 (g.mono e1.ex) Q fun B2 H2 c2 e2 => q B2 H2 c2 (e1.trans e2)⟩
/-! ### rows, one below the other -/
theorem leT_lex : ∀ (ns ms : List Int) (j m : Nat), j + m = ns.length → ns.length = ms.length → Ob.lexAt (fun j => decide (ns.getD j 0 = ms.getD j 0)) (fun j => decide (ns.getD j 0 ≤ ms.getD j 0)) (decide (ns.length ≤ ms.length)) j m = !RwS.lx (ms.drop j) (ns.drop j)
  | ns, ms, j, 0, h1, h2 => by
    rw [show j = ns.length by omega, List.drop_length]
    rw [show ms.drop ns.length = [] by rw [h2, List.drop_length]]
    show decide (ns.length ≤ ms.length) = !RwS.lx [] []
    rw [decide_eq_true (by omega)]; rfl
  | ns, ms, j, m + 1, h1, h2 => by
    have hj : j < ns.length := by omega
    have hj2 : j < ms.length := by omega
    have ih := leT_lex ns ms (j + 1) m (by omega) h2
    have e1 : ns.drop j = ns.getD j 0 :: ns.drop (j + 1) := by
      rw [List.drop_eq_getElem_cons hj]; simp [hj]
    have e2 : ms.drop j = ms.getD j 0 :: ms.drop (j + 1) := by
      rw [List.drop_eq_getElem_cons hj2]; simp [hj2]
    rw [e1, e2]
    show (if decide (ns.getD j 0 = ms.getD j 0) = true then Ob.lexAt _ _ _ (j + 1) m else decide (ns.getD j 0 ≤ ms.getD j 0)) = _
    by_cases h : ns.getD j 0 = ms.getD j 0
    · rw [if_pos (by simpa using h), ih, h, RwS.lx_eq]
    · rw [if_neg (by simpa using h), RwS.lx_ne (fun z => h z.symm)]
      by_cases h' : ns.getD j 0 ≤ ms.getD j 0
      · rw [decide_eq_true h', decide_eq_false (by omega)]; rfl
      · rw [decide_eq_false h', decide_eq_true (by omega)]; rfl
theorem reps_tup {v : V} {ns : List Int} (c : Ok K B H as S) (r : Rep K B v (.tup (ns.map Dat.int))) : ∃ a, v = .ref a ∧ SqT K H a (ns.map V.int) := by
  cases r with
  | tup h1 r1 =>
    have e := r1.ints
    subst e
    exact ⟨_, rfl, Evl.ex_t c.ex h1⟩
theorem o_leR {ns ms : List Int} (h : ns.length = ms.length) : Op2 K (rLeT K) (.d (.tup (ns.map Dat.int))) (.d (.tup (ms.map Dat.int))) S (.bl (!RwS.lx ms ns)) := fun B H as v w c r1 r2 Q k => by
  obtain ⟨a, rfl, h1⟩ := reps_tup c r1
  obtain ⟨b, rfl, h2⟩ := reps_tup c r2
  refine ⟨a, b, ns, ms, rfl, rfl, h1, h2, ?_⟩
  have := leT_lex ns ms 0 (min ns.length ms.length) (by omega) h
  rw [List.drop_zero, List.drop_zero] at this
  rw [this]
  exact k _ B H c Evo.refl (.bl _)
end
end RW

set_option Elab.async false
set_option linter.all false
set_option maxRecDepth 100000
set_option maxHeartbeats 4000000
namespace RW
open PySem PySem.Spec PyProof.Rows L2
open Evl (Ex)
section
variable {K : PySem.W.Frag} {n : Nat} {te ta tb tc to ti tv : TE} {tt tu : TT} {tA tR : TA} {env env' : Env1} {S S1 S2 S3 : List Dat} {x y z : Sl} {d e : Dat} {ds es : List Dat} {r r' : R2} {P P' : Post} {t u : TS}
  {B B0 B1 B2 B' H H0 H1 H2 H' : Hp} {as as0 as1 : List Addr} {D : Ends} {σ : L2.St} {i k : Nat} {a b c : Bool} {p q : Str}
theorem RepF.none {f : Str} : ∀ {vs : List (Str × V)} {fs : List (Str × Dat)}, RepF K B vs fs → fs.lookup f = none → vs.lookup f = none
  | _, _, .nil, _ => rfl
  | _, _, .cons (f := g) (vs := vs) (ds := ds) h r, e => by
    by_cases q : (f == g) = true
    · simp only [List.lookup, q] at e; cases e
    · have q' : (f == g) = false := by simpa using q
      simp only [List.lookup, q'] at e ⊢
      exact RepF.none r e
  | _, _, .cel (f := g) r, e => by
    by_cases q : (f == g) = true
    · simp only [List.lookup, q] at e; cases e
    · have q' : (f == g) = false := by simpa using q
      simp only [List.lookup, q'] at e ⊢
      exact RepF.none r e
/-- o.m(..), o an instance that is changed -/
theorem ev_meth {C : Addr} {m : Str} {fs : List (Str × Dat)} {G : List Sl → List Dat → Dat → List Dat → Prop} {E : XK} {ss : List Sl} (h : Ev K ta env S (.c k) S1) (hs : S1[k]? = some (.ins C fs)) (hm : fs.lookup m = none) (hx : EvA K tA env S1 ss S2) (hg : G (.c k :: ss) S2 d S3) :
    Ev K (tMeth C m (SpD K G) [] E ta tA) env S (.d d) S3 := fun B H as σ c g Q q =>
  h B H as σ c g _ fun v B1 H1 c1 e1 r1 => by
    obtain ⟨w, hw, rfl⟩ := r1
    obtain ⟨dx, vs, hv, rv⟩ := (c1.cells k w _ hw hs).2.ins
    refine ⟨w, dx, vs, rfl, hv, RepF.none rv hm, hx B1 H1 as σ c1 (g.mono e1.ex) _ fun us B2 H2 c2 e2 r2 => ?_⟩
    exact ⟨B2, as, S2, .c k :: ss, d, S3, c2, by rw [List.append_nil]; exact .cons ⟨w, hw, rfl⟩ r2, hg, fun v B3 H3 c3 e3 r3 => q v B3 H3 c3 ((e1.trans e2).trans e3) r3⟩
/-- x = C(..), an instance that will be changed -/
theorem sp_setMk {C : Addr} {G : List Sl → List Dat → Dat → List Dat → Prop} {ss : List Sl} {E : XK} {fs : List (Str × Dat)} (h : EvA K tA env S ss S1) (hg : G (.c S1.length :: ss) (S1 ++ [.ins C []]) .non (S2 ++ [.ins C fs])) (hl : S2.length = S1.length)
    (q : SP K n u (env.set i (some (.c S1.length))) (S2 ++ [.ins C fs]) P) : SP K n (tSeq (tAsg (tMake C (SpD K G) [] E tA) (gName i)) u) env S P := fun B0 H0 as0 Bk B H as σ hl0 f0 c g D m =>
  h B H as σ c g _ fun vs B1 H1 c1 e1 r1 x dx hx hdx hne => by
    have hB := c1.Bnone hx
    have hxa := c1.fresh hx
    have hdB := c1.Bnone hdx
    have hda := c1.fresh hdx
    have c2 : Ok K B1 (upd (upd H1 dx (.own x)) x (.ins C dx [])) as S1 := (c1.other hdB hda).other hB hxa
    have e2 : Evo B1 H1 as B1 (upd (upd H1 dx (.own x)) x (.ins C dx [])) := (Evo.refl.other (.of hdx)).other (.of hx)
    have c3 : Ok K B1 (upd (upd H1 dx (.own x)) x (.ins C dx [])) (as ++ [x]) (S1 ++ [.ins C []]) := c2.push hB hxa (CellAt.ofI upd_same .nil) (fun _ _ _ _ _ _ e q _ => by cases e; cases q)
    have grow : ∀ {vs : List V} {ss : List Sl}, RepSs K B1 as vs ss → RepSs K B1 (as ++ [x]) vs ss := by
      intro vs ss h
      induction h with
      | nil => exact .nil
      | cons h _ ih => exact .cons h.grow ih
    have r3 : RepSs K B1 (as ++ [x]) (.ref x :: (vs ++ [])) (.c S1.length :: ss) := by
      refine .cons ⟨x, by rw [← c1.len]; simp, rfl⟩ ?_
      rw [List.append_nil]
      exact grow r1
    refine ⟨B1, as ++ [x], _, _, _, _, c3, r3, hg, fun v B4 H4 c4 e4 r4 => ⟨by cases r4; rfl, ?_⟩⟩
    have f3 : Fr B0 H0 as0 Bk B1 _ (as ++ [x]) := ((f0.step e1).step e2).push ((f0.step e1).evo.old hx)
    exact q B0 H0 as0 Bk B4 H4 (as ++ [x]) _ hl0 (f3.step e4) c4 ((((g.mono e1.ex).grow).mono e4.ex).set i ⟨x, by rw [← c1.len]; simp, rfl⟩) D m
/-- o.f += e, of a field that is a number -/
theorem sp_fldaug {C : Addr} {fs : List (Str × Dat)} {f : Str} {p q : Int} (ho : Ev K ta env S (.c k) S1) (hs : S1[k]? = some (.ins C fs)) (cl : Cls K C) (na : NoAttr K C f) (hf : fs.lookup f = some (.int p)) (h : Ev K tv env S1 (.d (.int q)) S1) (hl : fs.length < 1000)
    (kk : SP K n u env (S1.set k (.ins C (putFD f (.int (p + q)) fs))) P) : SP K n (tSeq (sFldAug K ta tv rAdd f) u) env S P := fun B0 H0 as0 Bk B H as σ hl0 f0 c g D m =>
  ho B H as σ c g _ fun w B1 H1 c1 e1 r1 => by
    obtain ⟨x, hx, rfl⟩ := r1
    obtain ⟨dx, vs, hv, rv⟩ := (c1.cells k x _ hx hs).2.ins
    obtain ⟨v, hv1, rv1⟩ := rv.get hf (fun _ z => nomatch z)
    cases rv1
    refine ⟨x, C, dx, vs, .int p, rfl, hv, cl, na, hv1, h B1 H1 as σ c1 (g.mono e1.ex) _ fun y B2 H2 c2 e2 r2 => ?_⟩
    cases r2
    obtain ⟨dx2, vs2, hv2, rv2⟩ := (c2.cells k x _ hx hs).2.ins
    have e03 := (e1.trans e2).trans (Evo.setc (o := .ins C dx2 (putF f (.int (p + q)) vs2)) (List.mem_of_getElem? hx) hv2 (fun _ z => nomatch z))
    exact ⟨p, q, rfl, rfl, dx2, vs2, hv2, by rw [rv2.length]; exact hl, kk B0 H0 as0 Bk B2 _ as σ hl0 (f0.step e03) (c2.setc hx (show CellO K B2 (.ins C dx2 _) (.ins C _) from ⟨rfl, RepF.put (.int _) rv2⟩) (c2.lkput hx hs hv2 (.int _))) (g.mono e03.ex) D m⟩
theorem sp_fldaug1 {C : Addr} {fs : List (Str × Dat)} {f : Str} {p q : Int} (ho : Ev K ta env S (.c k) S1) (hs : S1[k]? = some (.ins C fs)) (cl : Cls K C) (na : NoAttr K C f) (hf : fs.lookup f = some (.int p)) (h : Ev K tv env S1 (.d (.int q)) S1) (hl : fs.length < 1000)
    (kk : P.nx env (S1.set k (.ins C (putFD f (.int (p + q)) fs)))) : SP K n (sFldAug K ta tv rAdd f) env S P := fun B0 H0 as0 Bk B H as σ hl0 f0 c g D m =>
  ho B H as σ c g _ fun w B1 H1 c1 e1 r1 => by
    obtain ⟨x, hx, rfl⟩ := r1
    obtain ⟨dx, vs, hv, rv⟩ := (c1.cells k x _ hx hs).2.ins
    obtain ⟨v, hv1, rv1⟩ := rv.get hf (fun _ z => nomatch z)
    cases rv1
    refine ⟨x, C, dx, vs, .int p, rfl, hv, cl, na, hv1, h B1 H1 as σ c1 (g.mono e1.ex) _ fun y B2 H2 c2 e2 r2 => ?_⟩
    cases r2
    obtain ⟨dx2, vs2, hv2, rv2⟩ := (c2.cells k x _ hx hs).2.ins
    have e03 := (e1.trans e2).trans (Evo.setc (o := .ins C dx2 (putF f (.int (p + q)) vs2)) (List.mem_of_getElem? hx) hv2 (fun _ z => nomatch z))
    exact ⟨p, q, rfl, rfl, dx2, vs2, hv2, by rw [rv2.length]; exact hl, m.nx _ _ B2 _ as σ (f0.step e03) (c2.setc hx (show CellO K B2 (.ins C dx2 _) (.ins C _) from ⟨rfl, RepF.put (.int _) rv2⟩) (c2.lkput hx hs hv2 (.int _))) (g.mono e03.ex) kk⟩
/-- while test: body -/
theorem sp_while {tb : TS} (Inv : Nat → Env1 → List Dat → Prop) {m0 : Nat} (h0 : Inv m0 env S)
    (hs : ∀ m env' S', Inv m env' S' → ∃ (b : Bool) (S2 : List Dat), EvT K tt env' S' b S2 ∧
      (b = true → SP K n tb env' S2 { nx := fun env2 S3 => ∃ m', m' < m ∧ Inv m' env2 S3, rt := P.rt, ok := P.ok, bk := P.nx, ct := fun env2 S3 => ∃ m', m' < m ∧ Inv m' env2 S3 }) ∧ (b = false → P.nx env' S2)) :
    SP K n (tWhile tt tb) env S P := fun B0 H0 as0 Bk B H as σ hl f0 c g0 D mm => by
  refine ⟨fun m σ' H' => ∃ env' S' B' as', Fr B0 H0 as0 Bk B' H' as' ∧ Ok K B' H' as' S' ∧ EnvR K B' as' σ' env' ∧ Inv m env' S', ⟨m0, env, S, B, as, f0, c, g0, h0⟩, ?_⟩
  rintro m σ' H' ⟨env', S', B', as', f', c', g', hinv⟩
  obtain ⟨b, S2, ht, h1, h2⟩ := hs m env' S' hinv
  refine ht B' H' as' σ' c' g' _ fun B2 H2 c2 e2 => ?_
  have f2 := f'.step e2
  have g2 := g'.mono e2.ex
  cases b with
  | false =>
    rw [if_neg (by decide)]
    exact mm.nx env' S2 B2 H2 as' σ' f2 c2 g2 (h2 rfl)
  | true =>
    rw [if_pos rfl]
    refine ⟨fun σ3 H3 => ∃ m', m' < m ∧ ∃ env3 S3 B3 as3, Fr B0 H0 as0 Bk B3 H3 as3 ∧ Ok K B3 H3 as3 S3 ∧ EnvR K B3 as3 σ3 env3 ∧ Inv m' env3 S3, fun σ3 H3 ⟨m', hm, h⟩ => ⟨m', hm, h⟩, ?_⟩
    refine h1 rfl B0 H0 as0 Bk B2 H2 as' σ' hl f2 c2 g2 _ ⟨?_, mm.rt, ?_, ?_, mm.ok⟩
    · exact fun env4 S4 B4 H4 as4 σ4 f4 c4 g4 ⟨m', hm, h⟩ => ⟨m', hm, env4, S4, B4, as4, f4, c4, g4, h⟩
    · exact fun env4 S4 B4 H4 as4 σ4 f4 c4 g4 p4 => mm.nx env4 S4 B4 H4 as4 σ4 f4 c4 g4 p4
    · exact fun env4 S4 B4 H4 as4 σ4 f4 c4 g4 ⟨m', hm, h⟩ => ⟨m', hm, env4, S4, B4, as4, f4, c4, g4, h⟩
/-! ### a dict whose keys are rows -/
/-- x = {} -/
theorem sp_setD (q : SP K n u (env.set i (some (.c S.length))) (S ++ [.dic []]) P) : SP K n (tSeq (tAsg tDNewT (gName i)) u) env S P := fun B0 H0 as0 Bk B H as σ hl f c g D m => fun p hp => by
  have hB := c.Bnone hp
  have hpa := c.fresh hp
  have c2 : Ok K B (upd H p (.dT [])) as S := c.other hB hpa
  have e2 : Evo B H as B (upd H p (.dT [])) := Evo.refl.other (.of hp)
  refine q B0 H0 as0 Bk B _ (as ++ [p]) _ hl ((f.step e2).push (f.evo.old hp)) (c2.push hB hpa ⟨_, upd_same, rfl⟩) ((g.grow).set i ⟨p, by rw [← c.len]; simp, rfl⟩) D m
theorem key_ints {k : List Int} : (k.map (Sum.inl : Int → L2.Key)).map kV = k.map V.int := by rw [List.map_map]; rfl
def insK (ks : List (List Int)) (k : List Int) : List (List Int) := if k ∈ ks then ks else ks ++ [k]
theorem inl_inj {a b : List Int} (h : a.map (Sum.inl : Int → L2.Key) = b.map Sum.inl) : a = b := (List.map_inj_right fun _ _ z => Sum.inl.inj z).mp h
theorem putK_keys {kvs : List (List L2.Key × V)} {ks : List (List Int)} {k : List Int} {v : V} (h : kvs.map (·.1) = ks.map fun k => k.map Sum.inl) : (putK kvs (k.map Sum.inl) v).map (·.1) = (insK ks k).map fun k => k.map Sum.inl := by
  have hm : (kvs.any fun kv => decide (kv.1 = k.map Sum.inl)) = true ↔ k ∈ ks := by
    rw [List.any_eq_true]
    constructor
    · rintro ⟨kv, hkv, e⟩
      have : kv.1 ∈ kvs.map (·.1) := List.mem_map.mpr ⟨kv, hkv, rfl⟩
      rw [h] at this
      obtain ⟨k2, hk2, e2⟩ := List.mem_map.mp this
      have e3 : kv.1 = k.map Sum.inl := by simpa using e
      rw [e3] at e2
      rw [← inl_inj e2]; exact hk2
    · intro hk
      have : k.map Sum.inl ∈ kvs.map (·.1) := by rw [h]; exact List.mem_map.mpr ⟨k, hk, rfl⟩
      obtain ⟨kv, hkv, e⟩ := List.mem_map.mp this
      exact ⟨kv, hkv, by simpa using e⟩
  unfold putK insK
  by_cases hk : k ∈ ks
  · rw [if_pos (hm.mpr hk), if_pos hk, ← h, List.map_map]
    refine List.map_congr_left fun kv _ => ?_
    show (if kv.1 = k.map Sum.inl then (kv.1, v) else kv).1 = kv.1
    split <;> rfl
  · rw [if_neg (fun z => hk (hm.mp z)), if_neg hk, List.map_append, List.map_append, h]
    rfl
/-- d[tuple(xs)] = e, xs a new list of numbers -/
theorem sp_stD1 {ks : List (List Int)} {ns : List Int} (h : Ev K te env S (.d d) S1) (ho : Ev K to env S1 (.c k) S2) (hx : EvN K ti env S2 (ns.map Dat.int) S3) (hs : S3[k]? = some (.dic ks)) (hl : ks.length < sizeLine) (hq : P.nx env (S3.set k (.dic (insK ks ns)))) :
    SP K n (tAsg te (gSub to (tCB (rTupD K) (tCons ti tNil)) rSetD)) env S P := fun B0 H0 as0 Bk B H as σ hl0 f0 c g D m =>
  h B H as σ c g _ fun v B1 H1 c1 e1 r1 => ho B1 H1 as σ c1 (g.mono e1.ex) _ fun w B2 H2 c2 e2 r2 => hx B2 H2 as σ c2 (g.mono (e1.trans e2).ex) _ fun l B3 H3 vs c3 e3 hl2 hb3 hl3 r3 => by
    obtain ⟨p, hp, rfl⟩ := r2
    have ei := r3.ints
    subst ei
    refine ⟨l, _, rfl, .inl ⟨Evl.sq_of hl3, fun tp htp => ?_⟩⟩
    have hpt : tp ∉ as := c3.fresh htp
    have c4 := c3.new (o := .tup (ns.map V.int)) htp
    have e4 := Evo.new (o := .tup (ns.map V.int)) c3 htp
    obtain ⟨kvs, hkv, hks⟩ := (c4.cells k p _ hp hs).2.dic
    have e05 := (((e1.trans e2).trans e3).trans e4).trans (Evo.setc (o := .dT (putK kvs (ns.map Sum.inl) v)) (List.mem_of_getElem? hp) hkv (fun _ z => nomatch z))
    refine ⟨p, _, rfl, .inr ⟨kvs, ns.map Sum.inl, tp, hkv, rfl, by rw [key_ints]; exact upd_same, ?_, rfl⟩, ?_⟩
    · have := congrArg List.length hks
      rw [List.length_map, List.length_map] at this
      omega
    · exact m.nx _ _ _ _ as σ (f0.step e05) (c4.setc hp (show CellO K _ (.dT _) (.dic _) from putK_keys hks)) (g.mono e05.ex) hq
/-- sorted(d): the keys, ascending -/
theorem en_sortD {ks : List (List Int)} {dn : Nat} (h : Ev K to env S (.c k) S1) (hs : S1[k]? = some (.dic ks)) (hd : 1 ≤ dn) (hk : ∀ r ∈ ks, r.length = dn) (hl : ks.length < 64) {rows : List (List Int)}
    (hu : ∀ rs : List (List Int), rs.Perm ks → rs.Pairwise (fun x y => RwS.lx y x = false) → rs = rows) :
    EvN K (tCB RwS.rSortedDT (tCons to tNil)) env S (rows.map fun r => Dat.tup (r.map Dat.int)) S1 := fun B H as σ c g Q q =>
  h B H as σ c g _ fun v B1 H1 c1 e1 r1 => by
    obtain ⟨p, hp, rfl⟩ := r1
    obtain ⟨kvs, hkv, hks⟩ := (c1.cells k p _ hp hs).2.dic
    refine ⟨p, kvs, ks, dn, rfl, hkv, hks, hd, hk, hl, fun L w l1 l2 l3 hw => ?_⟩
    have er := hu _ l2 (List.pairwise_map.mpr l3)
    -- what the keys are is known from now on
    have hcell : ∀ a ∈ L.map (·.1), a ∉ as := fun a ha hm => by
      obtain ⟨r, hr, rfl⟩ := List.mem_map.mp ha
      obtain ⟨j, hj⟩ := List.mem_iff_getElem?.mp hm
      have hjl : j < S1.length := by rw [← c1.len]; exact (List.getElem?_eq_some_iff.mp hj).1
      obtain ⟨_, o, ho, hco⟩ := c1.cells j _ _ hj (List.getElem?_eq_getElem hjl)
      rw [l1 r hr] at ho
      cases ho
      exact hco
    let B2 : Hp := fun a => if a ∈ L.map (·.1) then H1 a else B1 a
    have hin : ∀ a, a ∈ L.map (·.1) → B2 a = H1 a := fun a ha => if_pos ha
    have hout : ∀ a, a ∉ L.map (·.1) → B2 a = B1 a := fun a ha => if_neg ha
    have ex12 : Ex B1 B2 := fun a o e => by
      by_cases ha : a ∈ L.map (·.1)
      · rw [hin a ha]; exact c1.ex a o e
      · rw [hout a ha]; exact e
    have c2 : Ok K B2 H1 as S1 := ⟨fun a o e => by
      by_cases ha : a ∈ L.map (·.1)
      · rw [hin a ha] at e; exact e
      · rw [hout a ha] at e; exact c1.ex a o e, c1.len, fun j a s h1 h2 => by
      obtain ⟨q1, o, q2, q3⟩ := c1.cells j a s h1 h2
      exact ⟨by rw [hout a (fun ha => hcell a ha (List.mem_of_getElem? h1))]; exact q1, o, q2, q3.mono ex12⟩, c1.nd, c1.lk, fun a ps e => by
      by_cases ha : a ∈ L.map (·.1)
      · rw [hin a ha] at e
        obtain ⟨r, hr, rfl⟩ := List.mem_map.mp ha
        rw [l1 r hr] at e; cases e
      · rw [hout a ha] at e; exact c1.ntb a ps e, c1.tb⟩
    have e12 : Evo B1 H1 as B2 H1 := ⟨ex12, fun _ _ _ h _ => h, fun a _ _ _ => by
      by_cases ha : a ∈ L.map (·.1)
      · obtain ⟨r, hr, rfl⟩ := List.mem_map.mp ha
        exact .inr ⟨_, .inl ⟨_, rfl⟩, l1 r hr⟩
      · exact .inl (hout a ha), fun _ _ _ h => h, fun _ o h nt => ⟨o, h, nt⟩⟩
    refine evn_new c c2 (e1.trans e12) hw ?_ q
    rw [← er, List.map_map]
    have key : ∀ M : List (Addr × List Int), (∀ r ∈ M, r ∈ L) → Reps K B2 (M.map fun r => V.ref r.1) (M.map ((fun r => Dat.tup (r.map Dat.int)) ∘ fun r => r.2)) := by
      intro M
      induction M with
      | nil => intro _; exact .nil
      | cons r M ih =>
        intro hM
        have hr := hM r List.mem_cons_self
        refine .cons (.tup (Evl.st_of ?_) (reps_ints r.2)) (ih fun s hs => hM s (List.mem_cons_of_mem _ hs))
        rw [hin _ (List.mem_map.mpr ⟨r, hr, rfl⟩)]
        exact l1 r hr
    exact key L fun r hr => hr
end
end RW

set_option Elab.async false
set_option linter.all false
set_option maxRecDepth 100000
set_option maxHeartbeats 4000000
namespace RW
open PySem PySem.Spec PyProof.Rows L2
open Evl (Ex)
section
variable {K : PySem.W.Frag} {n : Nat} {te ta tb tc to ti tv : TE} {env env' : Env1} {S S1 S2 S3 : List Dat} {x y z : Sl} {d e : Dat} {ds es : List Dat} {P P' : Post} {t u : TS}
  {B B0 B1 B2 B' H H0 H1 H2 H' : Hp} {as as0 as1 : List Addr} {D : Ends} {σ : L2.St} {i j k : Nat}
/-- a, b = [..], e: a is a new list that will be changed -/
theorem sp_parC (h : EvN K ta env S ds S1) (hv : Ev K tb env S1 y S2) (q : SP K n u ((env.set j (some (.c S2.length))).set k (some y)) (S2 ++ [.lst ds]) P) :
    SP K n (tSeq (tPar j k (tCons ta (tCons tb tNil))) u) env S P := fun B0 H0 as0 Bk B H as σ hl f c g D m =>
  h B H as σ c g _ fun p B1 H1 vs c1 e1 hp hb h1 r1 => hv B1 H1 as σ c1 (g.mono e1.ex) _ fun w B2 H2 c2 e2 r2 => by
    have hpa : p ∉ as := hp.1
    obtain ⟨k1, k2⟩ := e2.kept hpa h1 hb
    have e03 := e1.trans e2
    exact ⟨_, _, rfl, q B0 H0 as0 Bk _ _ (as ++ [p]) _ hl ((f.step e03).push (f.evo.oldN hp.2)) (c2.push k2 hpa (.ofL k1 (r1.mono e2.ex))) (((g.mono e03.ex).grow.set (s := .c S2.length) j ⟨p, by rw [← c2.len]; simp, rfl⟩).set k r2.grow) D m⟩
/-- a, b = e, [..]: b is a new list that will be changed -/
theorem sp_parVC (hv : Ev K ta env S y S1) (h : EvN K tb env S1 ds S2) (q : SP K n u ((env.set j (some y)).set k (some (.c S2.length))) (S2 ++ [.lst ds]) P) :
    SP K n (tSeq (tPar j k (tCons ta (tCons tb tNil))) u) env S P := fun B0 H0 as0 Bk B H as σ hl f c g D m =>
  hv B H as σ c g _ fun w B1 H1 c1 e1 r1 => h B1 H1 as σ c1 (g.mono e1.ex) _ fun p B2 H2 vs c2 e2 hp hb h2 r2 => by
    have hpa : p ∉ as := hp.1
    have e03 := e1.trans e2
    exact ⟨_, _, rfl, q B0 H0 as0 Bk _ _ (as ++ [p]) _ hl ((f.step e03).push (f.evo.oldN (e1.oldN hp.2))) (c2.push hb hpa (.ofL h2 r2)) (((g.mono e03.ex).grow.set j (r1.mono e2.ex).grow).set (s := .c S2.length) k ⟨p, by rw [← c2.len]; simp, rfl⟩) D m⟩
end
end RW

set_option Elab.async false
set_option linter.all false
set_option maxRecDepth 100000
set_option maxHeartbeats 4000000
namespace RW
open PySem PySem.Spec PyProof.Rows L2
open Evl (Ex)
/-! ### how a def ends: a value, or an exception of the class at C with what it keeps -/
inductive Out where
  | val (r : Dat)
  | exc (C : Addr) (p : Option (Str × Dat))
def Pay (K : PySem.W.Frag) (B H : Hp) (d : Option Addr) : Option (Str × Dat) → Prop
  | none => True
  | some (f, x) => ∃ dd v, d = some dd ∧ H dd = some (.xd [(f, v)]) ∧ Rep K B v x
def XOk (K : PySem.W.Frag) (E : XK) (o : Out) (S' : List Dat) : Hp → Hp → List Addr → Prop := fun B0 H0 as0 =>
  ∀ C p, o = .exc C p → ∀ d B' H', Ok K B' H' as0 S' → Evo B0 H0 as0 B' H' → Pay K B' H' d p → E (.ref C) d H'
def SpR (K : PySem.W.Frag) (G : List Sl → List Dat → Out → List Dat → Prop) : Sp := fun vs H Q E => ∃ B as S ss o S', Ok K B H as S ∧ RepSs K B as vs ss ∧ G ss S o S' ∧
  (∀ r, o = .val r → ∀ v B' H', Ok K B' H' as S' → Evo B H as B' H' → Rep K B' v r → Q v H') ∧ XOk K E o S' B H as
section
variable {K : PySem.W.Frag} {n : Nat} {te ta tb tc to ti : TE} {tt tu : TT} {tA tR : TA} {env env' env1 : Env1} {S S1 S2 S3 : List Dat} {x y z : Sl} {d e : Dat} {ds es : List Dat} {r r' : R2} {P P' : Post} {t u : TS}
  {B B0 B1 B2 B' H H0 H1 H2 H' : Hp} {as as0 as1 : List Addr} {D : Ends} {σ : L2.St} {i k : Nat} {a b c : Bool} {E : XK} {C : Addr} {p : Option (Str × Dat)} {o : Out}
  {G : List Sl → List Dat → Out → List Dat → Prop}
theorem sp_bodyR {N : List Str} {vs : List V} {Q : VK} (h : SpR K G vs H Q E)
    (k : ∀ ss S o S', G ss S o S' → SP K S.length t (ss.map some ++ List.replicate (N.length - ss.length) none) S { rt := fun r' T => o = .val r' ∧ T = S', nx := fun _ T => o = .val .non ∧ T.take S.length = S', ok := XOk K E o S' }) :
    t { nx := fun _ H' => Q .non H', rt := Q } (start N vs) H := by
  obtain ⟨B, as, S, ss, o, S', c, rs, g, q, qx⟩ := h
  refine k ss S o S' g B H as B B H as _ c.len ⟨Evl.Ex.refl B, List.take_length, Evo.refl, fun a ha => ?_⟩ c (EnvR.start rs) _ ⟨fun env' T B' H' as' σ' f c' g' ⟨p1, p2⟩ => ?_, fun v r' T B' H' c' e' r1 ⟨p1, p2⟩ => ?_, fun _ _ _ _ _ _ _ _ _ p => p.elim, fun _ _ _ _ _ _ _ _ _ p => p.elim, qx⟩
  · rw [List.drop_length] at ha; cases ha
  · have c2 := c'.upto as.length
    rw [f.base, c.len, p2] at c2
    exact q .non p1 .non B' H' c2 f.evo .non
  · subst p2
    exact q r' p1 v B' H' c' e' r1
theorem spr_len {k : Nat} (h : ∀ ss S r S', G ss S r S' → ss.length = k) : ∀ vs H Q E, SpR K G vs H Q E → vs.length = k := fun vs H Q E q => by
  obtain ⟨B, as, S, ss, r, S', c, rs, g, _⟩ := q
  rw [rs.length]
  exact h ss S r S' g
/-! ### expressions that raise -/
def XWant (K : PySem.W.Frag) (E : XK) (B H : Hp) (as : List Addr) (C : Addr) (p : Option (Str × Dat)) (S1 : List Dat) : Prop :=
  ∀ d B' H', Ok K B' H' as S1 → Evo B H as B' H' → Pay K B' H' d p → E (.ref C) d H'
def EvX (K : PySem.W.Frag) (E : XK) (te : TE) (env : Env1) (S : List Dat) (C : Addr) (p : Option (Str × Dat)) (S1 : List Dat) : Prop :=
  ∀ B H as σ, Ok K B H as S → EnvR K B as σ env → XWant K E B H as C p S1 → ∀ Q, te σ H Q
def EvXT (K : PySem.W.Frag) (E : XK) (tt : TT) (env : Env1) (S : List Dat) (C : Addr) (p : Option (Str × Dat)) (S1 : List Dat) : Prop :=
  ∀ B H as σ, Ok K B H as S → EnvR K B as σ env → XWant K E B H as C p S1 → ∀ Q, tt σ H Q
def EvXA (K : PySem.W.Frag) (E : XK) (tA : TA) (env : Env1) (S : List Dat) (C : Addr) (p : Option (Str × Dat)) (S1 : List Dat) : Prop :=
  ∀ B H as σ, Ok K B H as S → EnvR K B as σ env → XWant K E B H as C p S1 → ∀ Q, tA σ H Q
theorem XWant.step {S' : List Dat} (w : XWant K E B H as C p S1) (e : Evo B H as B1 H1) : XWant K E B1 H1 as C p S1 := fun d B' H' c e1 pa => w d B' H' c (e.trans e1) pa
/-- a call that gives a value -/
theorem ev_callR {ss : List Sl} (h : EvA K tA env S ss S1) (hg : G ss S1 (.val d) S2) : Ev K (tCall (SpR K G) [] E tA) env S (.d d) S2 := fun B H as σ c g Q q =>
  h B H as σ c g _ fun vs B1 H1 c1 e1 r1 => ⟨B1, as, S1, ss, .val d, S2, c1, by rw [List.append_nil]; exact r1, hg, fun r er v B2 H2 c2 e2 r2 => by cases er; exact q v B2 H2 c2 (e1.trans e2) r2, fun _ _ z => nomatch z⟩
theorem ev_callX {ss : List Sl} (h : EvA K tA env S ss S1) (hg : G ss S1 (.exc C p) S2) : EvX K E (tCall (SpR K G) [] E tA) env S C p S2 := fun B H as σ c g w Q =>
  h B H as σ c g _ fun vs B1 H1 c1 e1 r1 => ⟨B1, as, S1, ss, .exc C p, S2, c1, by rw [List.append_nil]; exact r1, hg, fun r er => (nomatch er), fun C' p' z d B2 H2 c2 e2 pa => by cases z; exact w d B2 H2 c2 (e1.trans e2) pa⟩
theorem evx_op1 (ha : EvX K E ta env S C p S1) : EvX K E (tOp r ta tb) env S C p S1 := fun B H as σ c g w Q => ha B H as σ c g w _
theorem evx_op2 (ha : Ev K ta env S x S1) (hb : EvX K E tb env S1 C p S2) : EvX K E (tOp r ta tb) env S C p S2 := fun B H as σ c g w Q =>
  ha B H as σ c g _ fun v B1 H1 c1 e1 r1 => hb B1 H1 as σ c1 (g.mono e1.ex) (w.step (S' := S) e1) _
theorem evxa_1 (ha : EvX K E ta env S C p S1) : EvXA K E (tCons ta tA) env S C p S1 := fun B H as σ c g w Q => ha B H as σ c g w _
theorem evxa_2 (ha : Ev K ta env S x S1) (hb : EvXA K E tA env S1 C p S2) : EvXA K E (tCons ta tA) env S C p S2 := fun B H as σ c g w Q =>
  ha B H as σ c g _ fun v B1 H1 c1 e1 r1 => hb B1 H1 as σ c1 (g.mono e1.ex) (w.step (S' := S) e1) _
theorem evx_cb {r : List V → Hp → VK → Prop} (ha : EvXA K E tA env S C p S1) : EvX K E (tCB r tA) env S C p S1 := fun B H as σ c g w Q => ha B H as σ c g w _
theorem evx_callA {sp : Sp} {dvs : List V} {E' : XK} (ha : EvXA K E tA env S C p S1) : EvX K E (tCall sp dvs E' tA) env S C p S1 := fun B H as σ c g w Q => ha B H as σ c g w _
theorem evxt_B (ha : EvX K E te env S C p S1) : EvXT K E (tB te) env S C p S1 := fun B H as σ c g w Q => ha B H as σ c g w _
theorem evxt_test (ha : EvX K E te env S C p S1) : EvXT K E (tTest te) env S C p S1 := fun B H as σ c g w Q => ha B H as σ c g w _
theorem evxt_tru {K' : PySem.W.Frag} (ha : EvX K E te env S C p S1) : EvXT K E (tTru K' te) env S C p S1 := fun B H as σ c g w Q => ha B H as σ c g w _
theorem evxt_not (ha : EvXT K E tt env S C p S1) : EvXT K E (tNot tt) env S C p S1 := fun B H as σ c g w Q => ha B H as σ c g w _
theorem evxt_and1 (ha : EvXT K E tt env S C p S1) : EvXT K E (tAnd tt tu) env S C p S1 := fun B H as σ c g w Q => ha B H as σ c g w _
theorem evxt_or1 (ha : EvXT K E tt env S C p S1) : EvXT K E (tOr tt tu) env S C p S1 := fun B H as σ c g w Q => ha B H as σ c g w _
theorem evxt_or2 (h : EvT K tt env S false S1) (hb : EvXT K E tu env S1 C p S2) : EvXT K E (tOr tt tu) env S C p S2 := fun B H as σ c g w Q =>
  h B H as σ c g _ fun B1 H1 c1 e1 => hb B1 H1 as σ c1 (g.mono e1.ex) (w.step (S' := S) e1) _
theorem evxt_and2 (h : EvT K tt env S true S1) (hb : EvXT K E tu env S1 C p S2) : EvXT K E (tAnd tt tu) env S C p S2 := fun B H as σ c g w Q =>
  h B H as σ c g _ fun B1 H1 c1 e1 => hb B1 H1 as σ c1 (g.mono e1.ex) (w.step (S' := S) e1) _
theorem evx_if (h : EvT K tt env S b S1) (h1 : b = true → EvX K E ta env S1 C p S2) (h2 : b = false → EvX K E tb env S1 C p S2) : EvX K E (tIf tt ta tb) env S C p S2 := fun B H as σ c g w Q =>
  h B H as σ c g _ fun B1 H1 c1 e1 => by
    cases b with
    | true => exact h1 rfl B1 H1 as σ c1 (g.mono e1.ex) (w.step (S' := S) e1) Q
    | false => exact h2 rfl B1 H1 as σ c1 (g.mono e1.ex) (w.step (S' := S) e1) Q
/-! ### statements that raise: what is wanted of exceptions stands in P.ok -/
theorem Meets.want {Bk : Hp} (m : Meets K B0 H0 as0 Bk D P) (hP : P.ok = XOk K E (.exc C p) S2) (f : Fr B0 H0 as0 Bk B H as) (hl : as0.length = n) (hS : S1.take n = S2) : XWant K E B H as C p S1 := fun d B' H' c' e' pa => by
  have ok := m.ok
  rw [hP] at ok
  have f1 := f.step e'
  have c2 := c'.upto as0.length
  rw [f1.base, hl, hS] at c2
  exact ok C p rfl d B' H' c2 f1.evo pa
theorem sp_dropX (h : EvX K E te env S C p S1) (hP : P.ok = XOk K E (.exc C p) (S1.take n)) : SP K n (tDrop te) env S P := fun B0 H0 as0 Bk B H as σ hl f c g D m => h B H as σ c g (m.want hP f hl rfl) _
theorem sp_dropXq (h : EvX K E te env S C p S1) (hP : P.ok = XOk K E (.exc C p) (S1.take n)) : SP K n (tSeq (tDrop te) u) env S P := fun B0 H0 as0 Bk B H as σ hl f c g D m => h B H as σ c g (m.want hP f hl rfl) _
theorem sp_asgX {g : TG} (h : EvX K E te env S C p S1) (hP : P.ok = XOk K E (.exc C p) (S1.take n)) : SP K n (tAsg te g) env S P := fun B0 H0 as0 Bk B H as σ hl f c g D m => h B H as σ c g (m.want hP f hl rfl) _
theorem sp_asgXq {g : TG} (h : EvX K E te env S C p S1) (hP : P.ok = XOk K E (.exc C p) (S1.take n)) : SP K n (tSeq (tAsg te g) u) env S P := fun B0 H0 as0 Bk B H as σ hl f c g D m => h B H as σ c g (m.want hP f hl rfl) _
theorem sp_retX (h : EvX K E te env S C p S1) (hP : P.ok = XOk K E (.exc C p) (S1.take n)) : SP K n (tRet te) env S P := fun B0 H0 as0 Bk B H as σ hl f c g D m => h B H as σ c g (m.want hP f hl rfl) _
theorem sp_ifX (h : EvXT K E tt env S C p S1) (hP : P.ok = XOk K E (.exc C p) (S1.take n)) : SP K n (tIfS tt t u) env S P := fun B0 H0 as0 Bk B H as σ hl f c g D m => h B H as σ c g (m.want hP f hl rfl) _
theorem sp_ifXq {v : TS} (h : EvXT K E tt env S C p S1) (hP : P.ok = XOk K E (.exc C p) (S1.take n)) : SP K n (tSeq (tIfS tt t u) v) env S P := fun B0 H0 as0 Bk B H as σ hl f c g D m => h B H as σ c g (m.want hP f hl rfl) _
/-- raise X('..') -/
theorem sp_raise0 (hP : P.ok = XOk K E (.exc C none) (S.take n)) : SP K n (fun _ _ H => E (.ref C) none H) env S P := fun B0 H0 as0 Bk B H as σ hl f c g D m => m.want hP f hl rfl none B H c Evo.refl trivial
theorem sp_raise0q (hP : P.ok = XOk K E (.exc C none) (S.take n)) : SP K n (tSeq (fun _ _ H => E (.ref C) none H) u) env S P := fun B0 H0 as0 Bk B H as σ hl f c g D m => m.want hP f hl rfl none B H c Evo.refl trivial
end
/-! ### an exception that keeps a value -/
/-- __init__(self, v): self.f = v -/
def spXi (K : PySem.W.Frag) (C : Addr) (f : Str) : Sp := fun vs H Q _ => ∃ (a : Addr) (v : V), vs = [.ref a, v] ∧ OexC K C ∧ PySem.W.findIn K (.ref C) f = some none ∧ H a = some (exo a C none) ∧ ∀ dx, H dx = none → dx ≠ a → Q .non (upd (upd H dx (exd dx [(f, v)])) a (exo a C (some dx)))
theorem spxi_len {K : PySem.W.Frag} {C : Addr} {f : Str} : ∀ vs H Q E, spXi K C f vs H Q E → vs.length = 2 := fun vs H Q E ⟨a, v, e, _⟩ => by rw [e]; rfl
theorem spxi_body {K : PySem.W.Frag} {C : Addr} {f : Str} {N : List Str} {vs : List V} {H : Hp} {Q : VK} {E : XK} (h : spXi K C f vs H Q E) (hN : N.length = 2) : tOst K f (tVar 0) (tVar 1) { nx := fun _ H' => Q .non H', rt := Q } (start N vs) H := by
  obtain ⟨a, v, rfl, h1, h2, h3, q⟩ := h
  have e0 : (start N [V.ref a, v])[0]? = some (some (V.ref a)) := rfl
  have e1 : (start N [V.ref a, v])[1]? = some (some v) := rfl
  exact ⟨v, e1, _, e0, a, C, rfl, h1, h2, .inl ⟨h3, q⟩⟩
section
variable {K : PySem.W.Frag} {n : Nat} {tA : TA} {env : Env1} {S S1 : List Dat} {d : Dat} {P : Post} {u : TS} {E : XK} {C : Addr} {f : Str}
theorem xd_end {H1 : Hp} {a d : Addr} {u v w : HO} (ha : H1 a = none) (hd : d ≠ a) : upd (del (upd (upd (upd H1 a u) d v) a w) a) d (.xd fs) = upd H1 d (.xd fs) := by
  funext b
  by_cases hb : b = d
  · rw [hb, upd_same, upd_same]
  · rw [upd_ne hb, upd_ne hb]
    by_cases hba : b = a
    · rw [hba, del_same, ha]
    · rw [del_ne hba, upd_ne hba, upd_ne hb, upd_ne hba]
theorem mko_want {B H : Hp} {as : List Addr} {σ : L2.St} (h : EvA K tA env S [.d d] S1) (oc : OexC K C) (hf : PySem.W.findIn K (.ref C) f = some none) (c : Ok K B H as S) (g : EnvR K B as σ env) (w : XWant K E B H as C (some (f, d)) S1) :
    tMkO C (spXi K C f) [] tA σ H fun cls d H' => E cls d H' := h B H as σ c g _ fun vs B1 H1 c1 e1 r1 => by
  cases r1 with
  | cons r1 rr =>
    rename_i v vs'
    cases rr
    refine ⟨by show 1 ≤ 1000; decide, fun a ha => ⟨a, v, rfl, oc, hf, upd_same, fun dx hdx hne => ⟨rfl, dx, [(f, v)], upd_same, by rw [upd_ne hne, upd_same], by rw [upd_ne hne] at hdx; exact hdx, ?_⟩⟩⟩
    rw [upd_ne hne] at hdx
    rw [xd_end ha hne]
    have hB := c1.Bnone hdx
    exact w (some dx) B1 _ (c1.other hB (c1.fresh hdx)) (e1.trans (Evo.refl.other (.of hdx))) ⟨dx, v, rfl, upd_same, r1⟩
/-- raise X(e) -/
theorem sp_raise1 (h : EvA K tA env S [.d d] S1) (oc : OexC K C) (hf : PySem.W.findIn K (.ref C) f = some none) (hP : P.ok = XOk K E (.exc C (some (f, d))) (S1.take n)) : SP K n (fun _ σ H => tMkO C (spXi K C f) [] tA σ H fun cls d H' => E cls d H') env S P :=
  fun B0 H0 as0 Bk B H as σ hl f0 c g D m => mko_want h oc hf c g (m.want hP f0 hl rfl)
theorem sp_raise1q (h : EvA K tA env S [.d d] S1) (oc : OexC K C) (hf : PySem.W.findIn K (.ref C) f = some none) (hP : P.ok = XOk K E (.exc C (some (f, d))) (S1.take n)) : SP K n (tSeq (fun _ σ H => tMkO C (spXi K C f) [] tA σ H fun cls d H' => E cls d H') u) env S P :=
  fun B0 H0 as0 Bk B H as σ hl f0 c g D m => mko_want h oc hf c g (m.want hP f0 hl rfl)
end
end RW

set_option Elab.async false
set_option linter.all false
set_option maxRecDepth 100000
set_option maxHeartbeats 4000000
namespace RW
open PySem PySem.Spec PyProof.Rows L2
open Evl (Ex)
/-! ### tables of code objects among what is changed -/
section
variable {K : PySem.W.Frag} {env : Env1} {S S1 S2 : List Dat} {B B1 H H1 : Hp} {as : List Addr} {σ : L2.St}
def TabsD (T : List (Addr × Str)) (S : List Dat) : Prop := ∀ p ∈ T, ∃ k : Nat, S[k]? = some (.tab p.1 p.2)
theorem codeO_tbl {c : Addr} {q : Str} (ps : Array Value) : LamX.CodeO c q ≠ .tbl ps := LamX.codeO_ne ps
theorem Ok.tabAt (c : Ok K B H as S) {k : Nat} {P : Addr} {q : Str} (h : S[k]? = some (.tab P q)) : as[k]? = some P ∧ B P = none ∧ ∃ ps, H P = some (.tbl ps) ∧ TriplesOk ps.toList ∧ ∀ (pos : Pos) (cv : Value), codeAmong pos ps.toList = some cv → ∃ c, cv = .ref c ∧ B c = some (LamX.CodeO c q) := by
  have ha := c.tb k _ P h rfl
  obtain ⟨hb, o, ho, hc⟩ := c.cells k P _ ha h
  cases o <;> first
    | exact hc.elim
    | exact ⟨ha, hb, _, ho, hc⟩
theorem Ok.tabs {T : List (Addr × Str)} (c : Ok K B H as S) (h : TabsD T S) : LamX.Tabs T H := fun p hp => by
  obtain ⟨k, hk⟩ := h p hp
  obtain ⟨_, _, ps, h1, h2, h3⟩ := c.tabAt hk
  refine ⟨ps, h1, h2, fun pos cv hc => ?_⟩
  obtain ⟨c', e1, e2⟩ := h3 pos cv hc
  exact ⟨c', e1, c.ex _ _ e2⟩
/-- all codes are known from now on -/
noncomputable def withCodes (B H1 : Hp) : Hp := fun a => by
  classical
  exact if ∃ q, H1 a = some (LamX.CodeO a q) then H1 a else B a
theorem wc_yes {a : Addr} {q : Str} (h : H1 a = some (LamX.CodeO a q)) : withCodes B H1 a = H1 a := by
  unfold withCodes
  exact if_pos ⟨q, h⟩
theorem wc_no {a : Addr} (h : ¬ ∃ q, H1 a = some (LamX.CodeO a q)) : withCodes B H1 a = B a := by
  unfold withCodes
  exact if_neg h
theorem wc_or (a : Addr) : (withCodes B H1 a = H1 a ∧ ∃ q, H1 a = some (LamX.CodeO a q)) ∨ withCodes B H1 a = B a := by
  by_cases h : ∃ q, H1 a = some (LamX.CodeO a q)
  · obtain ⟨q, h⟩ := h
    exact .inl ⟨wc_yes h, q, h⟩
  · exact .inr (wc_no h)
/-- behind the making of a lambda: all but the tables stand, the tables are tables -/
theorem Ok.lam {T : List (Addr × Str)} (c : Ok K B H as S) (hT : TabsD T S) (hall : ∀ (k : Nat) (P : Addr) (q : Str), S[k]? = some (.tab P q) → (P, q) ∈ T) (e : LamX.ExtN H H1) (t : LamX.Tabs T H1) :
    Ok K (withCodes B H1) H1 as S ∧ Evo B H as (withCodes B H1) H1 := by
  have hBH : ∀ a o, B a = some o → H1 a = some o := fun a o h => e a o (c.ex a o h) fun ps z => c.ntb a ps (by rw [h, z])
  have ex1 : Ex B (withCodes B H1) := fun a o h => by
    rcases wc_or (B := B) (H1 := H1) a with ⟨z, _⟩ | z
    · rw [z]; exact hBH a o h
    · rw [z]; exact h
  have cellNC : ∀ (k : Nat) (a : Addr) (s : Dat), as[k]? = some a → S[k]? = some s → ¬ ∃ q, H1 a = some (LamX.CodeO a q) := fun k a s h1 h2 ⟨q, hq⟩ => by
    obtain ⟨hb, o, ho, hc⟩ := c.cells k a s h1 h2
    by_cases ht : ∃ ps, o = .tbl ps
    · obtain ⟨ps, rfl⟩ := ht
      cases s <;> first
        | exact hc.elim
        | (rename_i P q2
           have hp := c.tb k _ P h2 rfl
           rw [h1] at hp
           cases hp
           obtain ⟨ps2, h3, _⟩ := t (a, q2) (hall k a q2 h2)
           rw [hq] at h3
           exact codeO_tbl ps2 (Option.some.inj h3))
    · have := e a o ho fun ps z => ht ⟨ps, z⟩
      rw [hq] at this
      have e2 := Option.some.inj this
      unfold LamX.CodeO at e2
      subst e2
      cases s <;> exact hc.elim
  refine ⟨⟨fun a o h => ?_, c.len, fun k a s h1 h2 => ?_, c.nd, fun k a s o h1 h2 h3 => ?_, fun a ps h => ?_, c.tb⟩, ⟨ex1, fun a o hn h nt => e a o h nt, fun a o h nt => ?_, fun a o fo h => e a o h (fun ps z => by subst z; exact fo.tbl), fun a o h nt => ⟨o, e a o h nt, nt⟩⟩⟩
  · rcases wc_or (B := B) (H1 := H1) a with ⟨z, _⟩ | z
    · rw [z] at h; exact h
    · rw [z] at h; exact hBH a o h
  · obtain ⟨hb, o, ho, hc⟩ := c.cells k a s h1 h2
    refine ⟨by rw [wc_no (cellNC k a s h1 h2)]; exact hb, ?_⟩
    by_cases ht : ∃ ps, o = .tbl ps
    · obtain ⟨ps, rfl⟩ := ht
      cases s <;> first
        | exact hc.elim
        | (rename_i P q2
           have hp := c.tb k _ P h2 rfl
           rw [h1] at hp
           cases hp
           obtain ⟨ps2, h3, h4, h5⟩ := t (a, q2) (hall k a q2 h2)
           refine ⟨_, h3, h4, fun pos cv hcv => ?_⟩
           obtain ⟨c', e1, e2⟩ := h5 pos cv hcv
           exact ⟨c', e1, by rw [wc_yes e2]; exact e2⟩)
    · exact ⟨o, e a o ho fun ps z => ht ⟨ps, z⟩, hc.mono ex1⟩
  · obtain ⟨hb, o', ho, hc⟩ := c.cells k a s h1 h2
    by_cases ht : ∃ ps, o' = .tbl ps
    · obtain ⟨ps, rfl⟩ := ht
      cases s <;> first
        | exact hc.elim
        | exact fun _ _ _ _ z => nomatch z
    · have := e a o' ho fun ps z => ht ⟨ps, z⟩
      rw [h3] at this
      cases this
      exact c.lk k a s _ h1 h2 ho
  · rcases wc_or (B := B) (H1 := H1) a with ⟨z, q, hq⟩ | z
    · rw [z, hq] at h
      exact codeO_tbl ps (Option.some.inj h)
    · rw [z] at h; exact c.ntb a ps h
  · rcases wc_or (B := B) (H1 := H1) a with ⟨z, q, hq⟩ | z
    · exact .inr ⟨_, .inr ⟨a, q, rfl⟩, hq⟩
    · exact .inl z
end
end RW

set_option Elab.async false
set_option linter.all false
set_option maxRecDepth 100000
set_option maxHeartbeats 4000000
namespace RW
open PySem PySem.Spec PyProof.Rows L2
open Evl (Ex)
/-! ### try with several clauses, some of which name the exception -/
/-- a clause: its class, the slot of the name (if there is one), its suite's reading -/
abbrev Clause := Value × Option Nat × (Addr → Value → Option Addr → TS)
def unsetE (D : Ends) (i : Nat) : Ends := { nx := fun σ' H' => D.nx (σ'.set i none) H', rt := D.rt, bk := fun σ' H' => D.bk (σ'.set i none) H', ct := fun σ' H' => D.ct (σ'.set i none) H' }
def suiteRun (D : Ends) (i : Option Nat) (ts : TS) (a : Addr) (σ : L2.St) (H : Hp) : Prop := match i with
  | none => ts D σ H
  | some i => ts (unsetE D i) (σ.set i (some (.ref a))) H
def wMix (K : PySem.W.Frag) (Wout : WX) (D : Ends) : List Clause → WX
  | [] => Wout
  | (c, i, ts) :: r => fun cls d σ H => ∃ b, PySem.W.exmOne K cls c = some b ∧ (b = true → ∀ a, H a = none → suiteRun D i (ts a cls d) a σ H) ∧ (b = false → wMix K Wout D r cls d σ H)
inductive HdX (X : Cx) : List ExceptHandler → List Clause → Prop
  | nil : HdX X [] []
  | bare {x : Str} {c : Value} {ts : Addr → Value → Option Addr → TS} {b₀ : Stmt} {su : List Stmt} {np p' : Pos} {hds : List ExceptHandler} {l : List Clause} (hc : Names X x c)
      (hsu : ∀ (a : Addr) (oe : Obj) (cls : Value) (d : Option Addr) (pn : List (Addr × Obj)), Zc cls d oe → (∃ vs, oe.data = .fields vs) → PSs (X.suite a ((a, oe) :: pn)) (b₀ :: su) (ts a cls d)) (r : HdX X hds l) :
      HdX X (.ExceptHandler (some (.Name x np)) none (b₀ :: su) p' :: hds) ((c, none, ts) :: l)
  | named {x m : Str} {i : Nat} {c : Value} {ts : Addr → Value → Option Addr → TS} {b₀ : Stmt} {su : List Stmt} {np p' : Pos} {hds : List ExceptHandler} {l : List Clause} (hc : Names X x c) (hN : X.N.Nodup) (hi : X.N[i]? = some m) (hm : X.env.kindOf m = some .local)
      (hsu : ∀ (a : Addr) (oe : Obj) (cls : Value) (d : Option Addr) (pn : List (Addr × Obj)), Zc cls d oe → (∃ vs, oe.data = .fields vs) → PSs (X.suite a ((a, oe) :: pn)) (b₀ :: su) (ts a cls d)) (r : HdX X hds l) :
      HdX X (.ExceptHandler (some (.Name x np)) (some m) (b₀ :: su) p' :: hds) ((c, some i, ts) :: l)
section
variable {X : Cx} {body : List Stmt} {h₀ : ExceptHandler} {hds : List ExceptHandler} {l : List Clause} {pos : Pos} {tb : WX → TS} {Wout : WX}
/-- a caught exception at a, on the ground -/
structure Caught (X : Cx) (pins : List (Addr × Obj)) (a : Addr) (B : Heap) (sI : Shared) (σ : L2.St) (H : Hp) (cls : Value) (d : Option Addr) (s' : Shared) : Prop where
  J : Inv X pins σ H sI
  nb : ∀ b o, sI.heap.get? b = some o → b ∉ frs X.stack → B.get? b = some o
  fl : HandSPX.FlyingZ B (X.env :: X.outer) a (Zc cls d) s'.heap
  up : sI.heap.UpToSlots s'.heap
  na : H a = none
  os : s'.os = sI.os
  ag : AllBare s'.gens
theorem Caught.inv {pins : List (Addr × Obj)} {a : Addr} {B : Heap} {sI : Shared} {σ : L2.St} {H : Hp} {cls : Value} {d : Option Addr} {s' : Shared} (C : Caught X pins a B sI σ H cls d s') : Inv X pins σ H s' := C.J.landed C.nb C.fl.1 C.up C.os C.ag
theorem Caught.off {pins : List (Addr × Obj)} {a : Addr} {B : Heap} {sI : Shared} {σ : L2.St} {H : Hp} {cls : Value} {d : Option Addr} {s' : Shared} (C : Caught X pins a B sI σ H cls d s') (hf : X.env.frame = some X.env.locals) : a ≠ X.env.locals ∧ a ∉ X.fs := by
  obtain ⟨o, vs, ho, _, hd⟩ := C.fl.there
  have nfr : a ∉ frs (X.env :: X.outer) := fun hm => by
    obtain ⟨_, o', e', hnf⟩ := C.fl.2.2.1.mem hm
    rw [ho] at e'; cases e'
    exact hnf _ hd
  refine ⟨fun z => nfr (List.mem_filterMap.mpr ⟨X.env, List.mem_cons_self, by rw [hf, z]⟩), fun hm => ?_⟩
  obtain ⟨e, he, q⟩ := List.mem_filterMap.mp hm
  exact nfr (List.mem_filterMap.mpr ⟨e, List.mem_cons_of_mem _ he, q⟩)
theorem handle_mix (hs : X.stack = X.env :: X.outer) (hf : X.env.frame = some X.env.locals) (tk : Takes X Wout) {pins : List (Addr × Obj)} {D : Ends} {a : Addr} {B : Heap} {sI : Shared} {σ : L2.St} {H : Hp} {cls : Value} {d : Option Addr} :
    ∀ {hds : List ExceptHandler} {l : List Clause}, HdX X hds l → ∀ {s' : Shared}, Caught X pins a B sI σ H cls d s' → wMix X.K Wout D l cls d σ H → wpAny (model X.prog X.w) X.A (handleBy (.ref a) X.env hds) (L2.SP X pins D) X.xe s' := by
  intro hds l hk
  have suites : ∀ {s' : Shared} {b₀ : Stmt} {su : List Stmt} {ts : TS} {oe : Obj} {E : Ends} {σ1 : L2.St} {s1 : Shared} {R : Flow → Shared → Prop} {E' : Value → Shared → Prop}, PSs (X.suite a ((a, oe) :: (X.pn ++ pins))) (b₀ :: su) ts → Inv (X.suite a ((a, oe) :: (X.pn ++ pins))) [] σ1 H s1 → ts E σ1 H →
      (∀ f s2, L2.SP (X.suite a ((a, oe) :: (X.pn ++ pins))) [] E f s2 → R f s2) → wpAny (model X.prog X.w) (X.A.mark (some (.ref a))) (execs (b₀ :: su) X.env) R E' s1 := fun hp I ht k =>
    wpAny_mono (hp.run [] _ _ H _ I ht) (fun f s2 q => k f s2 q) fun _ _ z => False.elim z
  induction hk with
  | nil =>
    intro s' C w
    refine wpAny_handleBy_nil ?_
    have fl3 := C.fl
    obtain ⟨_, _, _, oe, vs, T, oT, ts', he, hz, hd, h1, hr⟩ := id fl3
    unfold PySem.passOn
    refine wpAny_bind (wpAny_field he hd h1 ?_)
    rw [if_neg (show ¬ ((Value.ref T == Value.none) = true) by simp)]
    have fin : wpAny (model X.prog X.w) X.A (setFlight (.ref a) X.env.frame) (fun _ s4 => wpAny (model X.prog X.w) X.A (throw (.ref a) : Sem Flow) (L2.SP X pins D) X.xe s4) X.xe s' := by
      rw [hf]
      exact HandSPX.setFlight_upZ fl3 fun h4 hh4 up4 => wpAny_throw (tk _ _ ⟨a, B, sI, pins, σ, H, cls, d, rfl, C.J, C.nb, C.up.trans up4, .inr (.inr (by rw [hs]; exact hh4)), C.na, C.os, C.ag, w⟩)
    first
      | exact wpAny_bind (wpAny_pure (wpAny_bind fin))
      | exact wpAny_bind fin
  | @bare x c ts b₀ su np p' hds2 l2 hc hsu r ih =>
    intro s' C w
    obtain ⟨b, hb1, hyes, hno⟩ := w
    obtain ⟨nL, nF⟩ := C.off hf
    obtain ⟨oe, vs, he, hz, hd⟩ := C.fl.there
    have S3 := C.inv.suite he hd C.na nL nF
    refine wpAny_handleBy_cons (codeAny_handlers_test ?_) (by intro q; cases q)
    have LT : PySem.W.Looks (model X.prog X.w) s'.heap (typeOf (.ref a)) cls := fun A Q E s k q => wpAny_typeOf_ref (k _ _ he) (by rw [hz.1]; exact q)
    have LM := PySem.W.exm_one (M := model X.prog X.w) C.inv.kIn LT hb1
    have nm : ∀ {Q E : Value → Shared → Prop}, Q c s' → wpAny (model X.prog X.w) (X.A.mark (some (.ref a))) (eval (.Name x np) X.env) Q E s' := fun {Q E} q => by
      obtain ⟨hg, hdbg, h | ⟨h, hv, hnn⟩⟩ := hc
      · exact ld_glob (X := X.suite a ((a, oe) :: (X.pn ++ pins))) S3 hg h q hdbg
      · exact ld_blt (X := X.suite a ((a, oe) :: (X.pn ++ pins))) S3 hg h hv q hnn hdbg
    refine nm (LM.here ?_)
    cases b with
    | true =>
      refine codeAny_handlers_suite ?_
      refine HandSPX.lands_againZ C.fl fun h4 fl4 up4 => ?_
      have C4 : Caught X pins a B sI σ H cls d { s' with heap := h4 } := ⟨C.J, C.nb, fl4, C.up.trans up4, C.na, C.os, C.ag⟩
      obtain ⟨oe4, vs4, he4, hz4, hd4⟩ := fl4.there
      refine suites (s' := s') (hsu a oe4 cls d (X.pn ++ pins) hz4 ⟨_, hd4⟩) (C4.inv.suite he4 hd4 C.na nL nF) (hyes rfl a C.na) fun f s6 hsp => ?_
      cases f with
      | next => obtain ⟨σ6, H6, S6, q6⟩ := hsp; exact ⟨_, _, S6.unsuite C.J.ok, q6⟩
      | brk => obtain ⟨σ6, H6, S6, q6⟩ := hsp; exact ⟨_, _, S6.unsuite C.J.ok, q6⟩
      | cont => obtain ⟨σ6, H6, S6, q6⟩ := hsp; exact ⟨_, _, S6.unsuite C.J.ok, q6⟩
      | ret u => obtain ⟨v6, σ6, H6, S6, r6, q6⟩ := hsp; exact ⟨_, _, _, S6.unsuite C.J.ok, r6, q6⟩
    | false =>
      show wpAny _ X.A (handleBy (.ref a) X.env hds2) _ _ _
      exact ih (s' := s') C (hno rfl)
  | @named x m i c ts b₀ su np p' hds2 l2 hc hN hi hm hsu r ih =>
    intro s' C w
    obtain ⟨b, hb1, hyes, hno⟩ := w
    obtain ⟨nL, nF⟩ := C.off hf
    obtain ⟨oe, vs, he, hz, hd⟩ := C.fl.there
    have S3 := C.inv.suite he hd C.na nL nF
    have hloc : Loc X.env.scope m := .inl hm
    refine wpAny_handleBy_cons (codeAny_handlers_test ?_) (by intro q; cases q)
    have LT : PySem.W.Looks (model X.prog X.w) s'.heap (typeOf (.ref a)) cls := fun A Q E s k q => wpAny_typeOf_ref (k _ _ he) (by rw [hz.1]; exact q)
    have LM := PySem.W.exm_one (M := model X.prog X.w) C.inv.kIn LT hb1
    have nm : ∀ {Q E : Value → Shared → Prop}, Q c s' → wpAny (model X.prog X.w) (X.A.mark (some (.ref a))) (eval (.Name x np) X.env) Q E s' := fun {Q E} q => by
      obtain ⟨hg, hdbg, h | ⟨h, hv, hnn⟩⟩ := hc
      · exact ld_glob (X := X.suite a ((a, oe) :: (X.pn ++ pins))) S3 hg h q hdbg
      · exact ld_blt (X := X.suite a ((a, oe) :: (X.pn ++ pins))) S3 hg h hv q hnn hdbg
    refine nm (LM.here ?_)
    cases b with
    | true =>
      refine codeAny_handlers_suite_as ?_
      refine HandSPX.lands_againZ C.fl fun h4 fl4 up4 => ?_
      have C4 : Caught X pins a B sI σ H cls d { s' with heap := h4 } := ⟨C.J, C.nb, fl4, C.up.trans up4, C.na, C.os, C.ag⟩
      obtain ⟨oe4, vs4, he4, hz4, hd4⟩ := fl4.there
      have S4 := C4.inv.suite he4 hd4 C.na nL nF
      refine store_ok (X := X.suite a ((a, oe4) :: (X.pn ++ pins))) (v := .ref a) S4 hN hi hloc rfl (fun s5 S5 => ?_) (.inr hm)
      refine suites (s' := s') (hsu a oe4 cls d (X.pn ++ pins) hz4 ⟨_, hd4⟩) S5 (hyes rfl a C.na) fun f s6 hsp => ?_
      have end_ : ∀ {σ6 : L2.St} {H6 : Hp} {Q : Shared → Prop}, Inv (X.suite a ((a, oe4) :: (X.pn ++ pins))) [] σ6 H6 s6 → (∀ s7, Inv X pins (σ6.set i none) H6 s7 → Q s7) →
          wpAny (model X.prog X.w) X.A (do bindName X.env m .none; unbindBehindTheSuite X.env m p') (fun _ s7 => Q s7) X.xe s6 := fun S6 hq => gone_ok (S6.unsuite C.J.ok) hN hi hm hq
      cases f with
      | next => obtain ⟨σ6, H6, S6, q6⟩ := hsp; exact end_ S6 fun s7 J7 => ⟨_, _, J7, q6⟩
      | brk => obtain ⟨σ6, H6, S6, q6⟩ := hsp; exact end_ S6 fun s7 J7 => ⟨_, _, J7, q6⟩
      | cont => obtain ⟨σ6, H6, S6, q6⟩ := hsp; exact end_ S6 fun s7 J7 => ⟨_, _, J7, q6⟩
      | ret u => obtain ⟨v6, σ6, H6, S6, r6, q6⟩ := hsp; exact end_ S6 fun s7 J7 => ⟨_, _, _, J7, r6, q6⟩
    | false =>
      show wpAny _ X.A (handleBy (.ref a) X.env hds2) _ _ _
      exact ih (s' := s') C (hno rfl)
theorem ps_try_mix (hs : X.stack = X.env :: X.outer) (hf : X.env.frame = some X.env.locals) (tk : Takes X Wout)
    (hb : ∀ (W : WX) (pn : List (Addr × Obj)) (xe : Value → Shared → Prop), Takes (X.tr pn xe) W → PassesOwn (model X.prog X.w) X.A X.env xe → PSs (X.tr pn xe) body (tb W)) (hh : HdX X (h₀ :: hds) l) :
    PS X (.Try body (h₀ :: hds) [] [] pos) (fun D σ H => tb (wMix X.K Wout D l) D σ H) := by
  refine ⟨fun pins s σ H D I h => wpAny_Try_except ?_⟩
  have ok := I.ok
  refine wpAny_mono ((hb (wMix X.K Wout D l) (X.pn ++ pins) (fun e s₁ => wpAny (model X.prog X.w) X.A (noteFrame e X.env) (fun _ s₂ => wpAny (model X.prog X.w) X.A (setFlight e none)
    (fun _ s₃ => wpAny (model X.prog X.w) X.A (handleBy e X.env (h₀ :: hds)) (L2.SP X pins D) X.xe s₃) X.xe s₂) X.xe s₁) (fun u s' xx => ?_) PassesOwn.looking).run [] s σ H D (I.toTry _) h) (fun f s1 hsp => ?_) (fun e s1 he => he)
  · obtain ⟨a, B, sI, pins', σ', H', cls, d, rfl, J', nb, up, sky, na, os, ag, w⟩ := xx
    have sky' : Sky B (X.env :: X.outer) a (Zc cls d) X.env.locals s'.heap := by rw [← hs]; exact sky
    show wpAny (model X.prog X.w) X.A (noteFrame (.ref a) X.env) _ _ _
    refine Sky.land Zc.steady (by rw [ok.frames, hs]) hf sky' fun h3 fl3 up3 => ?_
    exact handle_mix hs hf tk hh (s' := { s' with heap := h3 }) ⟨J'.ofTry ok, nb, fl3, up.trans up3, na, os, ag⟩ w
  · cases f with
    | next => obtain ⟨σ', H', J', q⟩ := hsp; exact wpAny_execs_nil ⟨σ', H', J'.ofTry ok, q⟩
    | brk => obtain ⟨σ', H', J', q⟩ := hsp; exact ⟨σ', H', J'.ofTry ok, q⟩
    | cont => obtain ⟨σ', H', J', q⟩ := hsp; exact ⟨σ', H', J'.ofTry ok, q⟩
    | ret u => obtain ⟨v, σ', H', J', r, q⟩ := hsp; exact ⟨v, σ', H', J'.ofTry ok, r, q⟩
end
end RW

set_option Elab.async false
set_option linter.all false
set_option maxRecDepth 100000
set_option maxHeartbeats 4000000
namespace RW
open PySem PySem.Spec PyProof.Rows L2
open Evl (Ex)
/-! ### a def that calls what it got, and tells how that ended -/
theorem takes_sized {X : Cx} {W : WX} (tk : Takes X W) : Takes X (fun cls d σ H => σ.length = X.N.length → W cls d σ H) := fun u s' ⟨a, B, sI, pins, σ, H, cls, d, e, I, nb, up, sky, na, os, ag, w⟩ =>
  tk u s' ⟨a, B, sI, pins, σ, H, cls, d, e, I, nb, up, sky, na, os, ag, w I.len⟩
/-- what it tells -/
inductive MR where
  | v (x : V)
  | t (xs : List V)
def Ret : MR → Hp → VK → Prop
  | .v x, H, Q => Q x H
  | .t xs, H, Q => ∀ b, H b = none → Q (.ref b) (upd H b (.tup xs))
def Dm (te0 : TE) (Q : VK) : Ends := { nx := fun σ' H' => te0 σ' H' Q, rt := Q }
def TMet (K : PySem.W.Frag) (l : List Clause) (te0 : TE) (r0 : MR) (m : Nat) : (XK → Hp → VK → Prop) → Hp → VK → Prop := fun tl H Q =>
  ∃ E : XK, (∀ cls d σ' H', E cls d H' → σ'.length = m → wMix K (fun _ _ _ _ => False) (Dm te0 Q) l cls d σ' H') ∧ tl E H fun _ H' => Ret r0 H' Q
theorem met_gives {X : Cx} {Ng : List Str} {x a q : Str} {sg : Scope} {g : Addr} {cdg : Value} {hds : List ExceptHandler} {h₀ : ExceptHandler} {l : List Clause} {e0 : Expr} {te0 : TE} {p1 p2 p3 p4 p5 : Pos}
    (hd : ∀ s H, HdX (cxOf C8.CX0 X.prog X.w X.K X.mg X.base Ng x sg g cdg X.A X.stack s H C8.E0).nox (h₀ :: hds) l) (he : ∀ s H, PE (cxOf C8.CX0 X.prog X.w X.K X.mg X.base Ng x sg g cdg X.A X.stack s H C8.E0).nox e0 te0)
    (h0 : ∀ f : Addr, (L2.start Ng [V.ref f])[0]? = some (some (V.ref f))) {r0 : MR} (hr0 : ∀ σ H Q, te0 σ H Q ↔ Ret r0 H Q) :
    LamX.GivesTo X Ng x sg g cdg [.Try [.Expr (.Call (.Name a p1) [] [] p2) p3] (h₀ :: hds) [] [] p4, .Return (some e0) p5] a q (TMet X.K l te0 r0 Ng.length) := by
  intro f c' s H Q tl act hc h
  obtain ⟨E, hE, ht⟩ := h
  refine ⟨_, pss_cons (ps_try_mix (X := (cxOf C8.CX0 X.prog X.w X.K X.mg X.base Ng x sg g cdg X.A X.stack s H C8.E0).nox)
    (tb := fun W D σ H => (∀ cls d σ' H', E cls d H' → σ'.length = Ng.length → W cls d σ' H') ∧ σ[0]? = some (some (.ref f)) ∧ H c' = some (LamX.CodeO c' q) ∧ tl E H fun _ H' => D.nx σ H') rfl rfl takes0 (fun W pn xe tk _ => ?_) (hd s H)) (pss_one (ps_ret (he s H))), ?_⟩
  · refine ⟨fun pins s' σ H' D I h' => ?_⟩
    obtain ⟨hW, h1, h2, h3⟩ := h'
    have hp := act (fun cls d σ' H' => σ'.length = Ng.length → W cls d σ' H') pn xe E p1 p2 (takes_sized tk) hW
    exact (pss_one (ps_expr (pos := p3) hp)).run pins s' σ H' D I ⟨h1, h2, h3⟩
  · refine ⟨fun cls d σ' H' e hl => hE cls d σ' H' e hl, h0 f, hc, ?_⟩
    show tl E H fun _ H' => te0 (L2.start Ng [V.ref f]) H' Q
    have e : (fun (_ : V) (H' : Hp) => te0 (L2.start Ng [V.ref f]) H' Q) = fun _ H' => Ret r0 H' Q := by
      funext _ H'
      exact propext (hr0 _ _ _)
    rw [e]; exact ht
def PayV (H : Hp) (d : Option Addr) : Option (Str × V) → Prop
  | none => True
  | some (f, v) => ∃ dd, d = some dd ∧ H dd = some (.xd [(f, v)])
def EMet (res : Addr → Option (Str × V) → MR → Prop) (Q : VK) : XK := fun cls d H' => ∃ C p r, cls = .ref C ∧ res C p r ∧ PayV H' d p ∧ Ret r H' Q
structure MetOk (TT : (XK → Hp → VK → Prop) → Hp → VK → Prop) (r0 : MR) (res : Addr → Option (Str × V) → MR → Prop) : Prop where
  run : ∀ tl H Q, (tl (EMet res Q) H fun _ H' => Ret r0 H' Q) → TT tl H Q
/-- r stands for d -/
def RepM (K : PySem.W.Frag) : MR → Dat → Prop
  | .v x, d => ∀ B, Rep K B x d
  | .t xs, d => ∃ ds, d = .tup ds ∧ ∀ B, Reps K B xs ds
section
variable {K : PySem.W.Frag} {env : Env1} {S S1 : List Dat} {x : Sl} {d : Dat} {T : List (Addr × Str)} {TT : (XK → Hp → VK → Prop) → Hp → VK → Prop} {t : XK → TE} {r0 r : MR} {res : Addr → Option (Str × V) → MR → Prop} {C : Addr} {p : Option (Str × Dat)}
  {B H B1 H1 : Hp} {as : List Addr}
theorem Ret.of {Q : VK} (hr : RepM K r d) (c : Ok K B1 H1 as S1) (e : Evo B H as B1 H1) (q : ∀ v B' H', Ok K B' H' as S1 → Evo B H as B' H' → RepS K B' as v (.d d) → Q v H') : Ret r H1 Q := by
  cases r with
  | v x => exact q x B1 H1 c e (hr B1)
  | t xs =>
    obtain ⟨ds, rfl, hds⟩ := hr
    exact fun b hb => q (.ref b) (upd B1 b (.tup xs)) _ (c.new hb) (e.trans (Evo.new c hb)) (.tup (Evl.st_of upd_same) (hds _))
def AllTabs (T : List (Addr × Str)) (S : List Dat) : Prop := TabsD T S ∧ ∀ (k : Nat) (P : Addr) (q : Str), S[k]? = some (.tab P q) → (P, q) ∈ T
theorem ev_met (M : MetOk TT r0 res) (hT : AllTabs T S) (h : ∀ E, Ev K (t E) env S x S1) (hr : RepM K r0 d) : Ev K (LamX.tLam T TT t) env S (.d d) S1 := fun B H as σ c g Q q =>
  ⟨c.tabs hT.1, fun H1 eN t1 => by
    obtain ⟨c1, e1⟩ := c.lam hT.1 hT.2 eN t1
    exact M.run _ _ _ (h _ _ H1 as σ c1 (g.mono e1.ex) _ fun v B2 H2 c2 e2 r2 => Ret.of hr c2 (e1.trans e2) q)⟩
theorem ev_metX (M : MetOk TT r0 res) (hT : AllTabs T S) (h : ∀ E, EvX K E (t E) env S C p S1) (hr : RepM K r d) (hres : ∀ B : Hp, match p with | none => res C none r | some (f, x) => ∀ v, Rep K B v x → res C (some (f, v)) r) :
    Ev K (LamX.tLam T TT t) env S (.d d) S1 := fun B H as σ c g Q q =>
  ⟨c.tabs hT.1, fun H1 eN t1 => by
    obtain ⟨c1, e1⟩ := c.lam hT.1 hT.2 eN t1
    refine M.run _ _ _ (h _ _ H1 as σ c1 (g.mono e1.ex) (fun dx B2 H2 c2 e2 pa => ?_) _)
    have R := Ret.of (Q := Q) hr c2 (e1.trans e2) q
    cases p with
    | none => exact ⟨C, none, r, rfl, hres B, trivial, R⟩
    | some fx =>
      obtain ⟨f, x⟩ := fx
      obtain ⟨dd, v, h1, h2, h3⟩ := pa
      exact ⟨C, some (f, v), r, rfl, hres B2 v h3, ⟨dd, h1, h2⟩, R⟩⟩
end
end RW

set_option Elab.async false
set_option linter.all false
set_option maxRecDepth 100000
set_option maxHeartbeats 4000000
/-! ### own exception classes with a field, straight over a built-in one (IndexError, OverflowError, ArithmeticError, LookupError) -/
namespace RW
open PySem PySem.Spec PyProof.Rows L2
open Evl (Ex)
section
open Builtin Builtin.ObjectAttr
variable {P : Program} {w : World} {A : Around} {R : Result → Shared → Prop} {h0 : Heap} {g : Array GenState} {dr : Drawn} {t : Nat} {os : OsState}
/-- the first store into such an object: its dict is made -/
theorem store_first {K : PySem.W.Frag} {f : Str} {tk : Tok} {v : Value} {x C : Addr} {fv : Array Value} {cd : ClassData} {B : String} {bm : List Value} (SF : StoreFacts B bm "object.__setattr__" "object")
    (X : K.In h0) (hx : h0.get? x = some { cls := .ref C, data := .fields fv }) (ho : PySem.W.excOver K C bm = true) (hcd : PySem.W.clsIn K C = some cd) (hh : cd.hasDict = true) (ha : PySem.W.findIn K (.ref C) f = some none)
    (hq : ∀ h1 tk1 dx, h1.get? x = some { cls := .ref C, dict := some dx, data := .fields fv } → h1.Ns1 dx (fun y => if y = f then some v else none) → dx ≠ x → h0.objs.size ≤ dx → (∀ b o, b ≠ x → h0.get? b = some o → h1.get? b = some o) → R (.ok (.ret .none)) ⟨h1, g, dr, tk1, os⟩) :
    codeAny (model P w) A (.call (.builtin "object.__setattr__") ⟨[.ref x, .str f tk, v], []⟩) R ⟨h0, g, dr, t, os⟩ := by
  have htk : PySem.W.takerIn K C f = some none := by unfold PySem.W.takerIn; rw [ha]; rfl
  have lc : PySem.W.Looks (model P w) h0 (classData C) cd := PySem.W.looks_clsIn X hcd
  have hs : x ≠ h0.objs.size := Nat.ne_of_lt (Heap.lt_size hx)
  refine PySem.W.osa_openX (od := none) SF X ⟨hx, rfl, rfl, trivial⟩ ho htk fun b => ?_
  show wpAny _ _ (storeInOwnDict (.ref x) (.ref C) (.str f tk) f v b) _ _ _
  obtain ⟨c1, c2, c3, c4, c5, hd, c6, c7, c8, c9, c10⟩ := cd
  obtain rfl : hd = true := hh
  unfold storeInOwnDict ownDictForStores
  repeat (first
    | with_reducible refine PySem.HandSPX.store_in_new ?_ ?_
    | with_reducible refine lc.at ?_
    | with_reducible refine wpAny_loadPart_at hx ?_
    | wp_step)
  · exact ⟨_, #[], _, (Heap.get?_update_ne _ _ _ _ hs.symm).trans (Heap.get?_push_at rfl rfl), rfl, fun z hz => absurd hz (by simp), fun _ => rfl⟩
  · intro h1 tk1 hn sb
    have old : ∀ {b o}, h0.get? b = some o → b ≠ h0.objs.size := fun e => Nat.ne_of_lt (Heap.lt_size e)
    refine hq h1 tk1 h0.objs.size ?_ hn hs.symm (Nat.le_refl _) fun b o hb e => ?_
    · rw [sb.2 x hs]
      exact Heap.get?_update_self _ (Heap.get?_push_of_some _ hx) rfl
    · rw [sb.2 b (old e), Heap.get?_update_ne _ _ _ _ hb]
      exact Heap.get?_push_of_some _ e
end
structure OexG (K : PySem.W.Frag) (C : Addr) : Prop where
  cls : ∃ (B newId initId : String) (bm : List Value), (ExcBaseFacts B newId initId bm ∧ StoreFacts B bm "object.__setattr__" "object" ∧ PySem.W.excTail bm bm = true) ∧
    ∃ nm q N bs sn sub ab col dd k0 k1 k2 k3 k5, K.lookup C = some (excClassObj nm q C N bs bm true sn sub ab col dd k0 k1 k2 k3 k5 newId)
  sa : PySem.W.findIn K (.ref C) "__setattr__" = some (some (.builtin "object.__setattr__"))
  exC : PySem.W.subIn K (.ref C) (.type "BaseException") = some true
  tyC : PySem.W.typeIn K (.ref C) = some (.type "type")
  kC : PySem.W.keepIn K (.ref C) = true
section
variable {X : Cx} {pins : List (Addr × Obj)} {σ : L2.St} {H : Hp} {s : Shared} {a C : Addr} {f : Str} {y : V} {u : Value} {Q : Unit → Shared → Prop} {E : Value → Shared → Prop} {A : Around}
/-- self.f = y on an exception that is being made -/
theorem xset_first (T : OexG X.K C) (I : Inv X pins σ H s) (e : H a = some (exo a C none)) (hno : PySem.W.findIn X.K (.ref C) f = some none) (ry : RelV y u)
    (q : ∀ dx s', dx ≠ a → H dx = none → Inv X pins σ (upd (upd H dx (exd dx [(f, y)])) a (exo a C (some dx))) s' → Q () s') : wpAny (model X.prog X.w) A (setAttr (.ref a) f u) Q E s := by
  obtain ⟨B, newId, initId, bm, ⟨_, SF, tl⟩, nm, qn, N, bs, sn, sub, ab, col, dd, k0, k1, k2, k3, k5, hC⟩ := T.cls
  have hcl : PySem.W.clsIn X.K C = some { name := nm, bases := bs, mro := .ref C :: bm, ns := N, qualname := qn, hasDict := true, slotNames := sn, subclasses := sub, abstract := ab, collection := col, hasDel := false } := by
    unfold PySem.W.clsIn
    rw [hC] <;> rfl
  have hov : PySem.W.excOver X.K C bm = true := by
    unfold PySem.W.excOver
    rw [hcl]
    simp [tl]
  obtain ⟨t1, ho⟩ := exo_at I.hok e
  obtain ⟨h0, g, dr, t, os⟩ := s
  refine PySem.W.set_plain I.kIn (od := none) ⟨ho, rfl, rfl, trivial⟩ T.sa (store_first SF I.kIn ho hov hcl rfl hno fun h1 tk1 dx hx hn dne dnew k => ?_)
  have hd : H dx = none := I.hok.fresh dnew
  have other : ∀ {b : Addr}, H b = none → b ≠ a := fun {b} n z => by rw [z, e] at n; cases n
  have young : ∀ {b : Addr} {o : Obj}, h0.get? b = some o → b ≠ dx := fun {b o} z => Nat.ne_of_lt (Nat.lt_of_lt_of_le (Heap.lt_size z) dnew)
  have same : ∀ {b : Addr} {o : HO}, H b = some o → o ≠ exo a C none → upd (upd H dx (exd dx [(f, y)])) a (exo a C (some dx)) b = some o := fun {b o} z n => by
    have ha : b ≠ a := fun w => by rw [w, e] at z; exact n (Option.some.inj z).symm
    rw [upd_ne ha, upd_ne (ne_of_none z hd)]; exact z
  refine q dx _ dne hd (I.un (t' := tk1) ⟨fun b o z n _ _ => k b o (other n) z, fun b o z n _ _ => ⟨o.slots, k b o (other n) z⟩, fun b o z n _ => ?_, fun b o z _ => ?_, fun b xs z => same z fun w => exo_tup w.symm, fun b o v z => same z fun w => exo_frz w.symm, fun b ps z => ⟨#[], ?_⟩⟩ fun b o z => ?_)
  · rw [upd_ne (other n), upd_ne (young z)]; exact n
  · by_cases hb : b = a
    · rw [hb]; exact ⟨_, hx⟩
    · exact ⟨o, k b o hb z⟩
  · rw [Array.append_empty]
    exact same z fun w => exo_tbl w.symm
  · by_cases hb : b = a
    · rw [hb, upd_same] at z
      cases z
      rw [hb]
      exact exo_ok hx
    · rw [upd_ne hb] at z
      by_cases hb2 : b = dx
      · rw [hb2, upd_same] at z
        cases z
        rw [hb2]
        exact exd_ok hn (relO_put (fs := []) ry fun _ => trivial)
      · rw [upd_ne hb2] at z
        refine (I.hok b o z).stay (fun c v hc zz => k c v ?_ zz) (fun c hc => same hc fun w => exo_own w.symm) fun c xs hc => same hc fun w => exo_tup w.symm
        rcases hc with rfl | hc
        · exact hb
        · exact at_ne e hc exo_own
end
/-- self.f = e, in such an __init__ -/
def tXset (K : PySem.W.Frag) (f : Str) (to te : TE) : TS := fun D σ H => te σ H fun y H1 => to σ H1 fun x H2 => ∃ a C : Addr, x = .ref a ∧ OexG K C ∧ PySem.W.findIn K (.ref C) f = some none ∧ H2 a = some (exo a C none) ∧
  ∀ dx, H2 dx = none → dx ≠ a → D.nx σ (upd (upd H2 dx (exd dx [(f, y)])) a (exo a C (some dx)))
theorem ps_xset {X : Cx} {o e : Expr} {to te : TE} {f : Str} {p' pos : Pos} (ho : PE X o to) (he : PE X e te) (hs : swapsWith e (some (.Attribute o f p')) pos.line X.env = pure false := by rfl) : PS X (.Assign [.Attribute o f p'] e pos) (tXset X.K f to te) := ⟨fun pins s σ H D I h => by
  refine plainObj_wpAny_Assign_Attribute (thn (he.run pins s σ H _ I h) fun v s1 q1 => ?_) hs
  obtain ⟨y, H1, I1, r1, q1⟩ := q1
  refine thn (ho.run pins s1 σ H1 _ I1 q1) fun u s2 q2 => ?_
  obtain ⟨x, H2, I2, r2, a, C, rfl, T, hno, ea, q⟩ := q2
  obtain rfl : u = Value.ref a := r2
  exact xset_first T I2 ea hno r1 fun dx s' ne n J => ⟨σ, _, J, q dx n ne⟩⟩
/-- C(e, ..): made, its __init__ run -/
theorem pmk_xi {X : Cx} {e : Expr} {es : List Expr} {ta : TA} {p pos : Pos} {cx : CXT} {x : Str} {C fI : Addr} {n : Nat} {fd : FuncData} {ps : List Str} {sp : Sp} (T : OexG X.K C) (iC : PySem.W.findIn X.K (.ref C) "__init__" = some (some (.ref fI)))
    (tI : PySem.W.typeIn X.K (.ref fI) = some (.type "function")) (F1 : FnOk X.prog X.w X.K X.mg X.base cx n fI fd ps sp) (hr : Room (n + 1) X.A) (hb : L2.Binds X.K fd ps []) (hx : Passes cx X (fun _ _ _ => False)) (hg : Gl X x) (hm : X.mg x = some (.ref C)) (ha : PA X (e :: es) ta)
    (hdb : (x == ("__debug__" : Str)) = false := by decide) (he : starEach (e :: es) X.env = (false, eval e X.env) :: starEach es X.env := by rfl) (hpl : (backTo pos (starEach es X.env)).any (·.1) = false := by rfl) :
    PMk X (.Call (.Name x p) (e :: es) [] pos) (tMkO C sp [] ta) := by
  intro pins s σ H Q I h
  obtain ⟨B, newId, initId, bm, ⟨FB, _, _⟩, nm, qn, N, bs, sn, sub, ab, col, dd, k0, k1, k2, k3, k5, hC⟩ := T.cls
  refine wpAny_Call_Name_kw (ld_glob I hg hm (PySem.W.callWith_K (h₀ := X.base) I.ok.mod.kin T.kC (thn (ha.run pos pins s σ H _ I h) fun us s1 q1 => ?_) he hpl) hdb)
  obtain ⟨vs, H1, I1, r1, hz, q1⟩ := q1
  refine ⟨I1.kIn, ?_⟩
  show wpAny _ _ (call (.ref C) us) _ _ _
  obtain ⟨h0, g, dr, tk, os⟩ := s1
  have big : h0.objs.size ≤ h0.objs.size + 1 := Nat.le_succ _
  have hq := q1 _ (I1.hok.fresh big)
  have got : ((h0.push (PySem.W.kdv_tup us)).push (PySem.HandSPX.excO C h0.objs.size)).get? (h0.objs.size + 1) = some (PySem.HandSPX.excO C h0.objs.size) := by heap_get
  have stay : ∀ b o, h0.get? b = some o → ((h0.push (PySem.W.kdv_tup us)).push (PySem.HandSPX.excO C h0.objs.size)).get? b = some o := fun b o z => Heap.get?_push_of_some _ (Heap.get?_push_of_some _ z)
  have I2 := I1.laid (t' := tk) (o := exo (h0.objs.size + 1) C none) stay big (exo_ok got)
  have rv : Vals (V.ref (h0.objs.size + 1) :: (vs ++ [])) (Value.ref (h0.objs.size + 1) :: (us ++ [])) := .cons rfl (r1.append .nil)
  have hl : (Value.ref (h0.objs.size + 1) :: us ++ []).length = ps.length := rv.length.symm.trans (F1.len _ _ _ _ hq)
  have hus : us.length ≤ sizeLine := by have := r1.length; rw [sizeLine_eq]; omega
  refine wpAny_call (PySem.HandSPX.call_own FB (fun _ => rfl) (I1.kIn _ _ hC) (PySem.W.looks_findIn I1.kIn iC) (fun self => PySem.W.bind_fn I1.kIn self tI) hus (codeAny_mono
    (F1.run _ X.stack _ _ ⟨Value.ref (h0.objs.size + 1) :: us, []⟩ _ _ _ (fun _ _ _ => False) (hr.make C us []) (I2.env0.make C us []) (hb _ (Value.ref (h0.objs.size + 1) :: us) I2.kIn hl) rv hq) fun r s' z => ?_))
  rcases r with er | fl
  · exact hx pins σ _ _ er s' I2 z
  · cases fl with
    | ret u =>
      obtain ⟨v, H2, os2, bare, un, hok, rv2, ev, d, fs, ea, ed, hd1, q2⟩ := z
      subst ev
      obtain ⟨h2, g2, d2, t2, os3⟩ := s'
      exact ⟨rv2, mk_end (raises_own T.exC T.tyC) I1 big stay un hok os2 bare ea ed hd1 q2⟩
    | next => exact z.elim
    | brk => exact z.elim
    | cont => exact z.elim
/-! ### the promise of such an __init__, and what a raise of it gives -/
def spXg (K : PySem.W.Frag) (C : Addr) (f : Str) : Sp := fun vs H Q _ => ∃ (a : Addr) (v : V), vs = [.ref a, v] ∧ OexG K C ∧ PySem.W.findIn K (.ref C) f = some none ∧ H a = some (exo a C none) ∧ ∀ dx, H dx = none → dx ≠ a → Q .non (upd (upd H dx (exd dx [(f, v)])) a (exo a C (some dx)))
theorem spxg_len {K : PySem.W.Frag} {C : Addr} {f : Str} : ∀ vs H Q E, spXg K C f vs H Q E → vs.length = 2 := fun vs H Q E ⟨a, v, e, _⟩ => by rw [e]; rfl
theorem spxg_body {K : PySem.W.Frag} {C : Addr} {f : Str} {N : List Str} {vs : List V} {H : Hp} {Q : VK} {E : XK} (h : spXg K C f vs H Q E) (hN : N.length = 2) : tXset K f (tVar 0) (tVar 1) { nx := fun _ H' => Q .non H', rt := Q } (start N vs) H := by
  obtain ⟨a, v, rfl, h1, h2, h3, q⟩ := h
  exact ⟨v, rfl, _, rfl, a, C, rfl, h1, h2, h3, q⟩
section
variable {K : PySem.W.Frag} {n : Nat} {tA : TA} {env : Env1} {S S1 : List Dat} {d : Dat} {P : Post} {u : TS} {E : XK} {C : Addr} {f : Str}
theorem mkg_want {B H : Hp} {as : List Addr} {σ : L2.St} (h : EvA K tA env S [.d d] S1) (oc : OexG K C) (hf : PySem.W.findIn K (.ref C) f = some none) (c : Ok K B H as S) (g : EnvR K B as σ env) (w : XWant K E B H as C (some (f, d)) S1) :
    tMkO C (spXg K C f) [] tA σ H fun cls d H' => E cls d H' := h B H as σ c g _ fun vs B1 H1 c1 e1 r1 => by
  cases r1 with
  | cons r1 rr =>
    rename_i v vs'
    cases rr
    refine ⟨by show 1 ≤ 1000; decide, fun a ha => ⟨a, v, rfl, oc, hf, upd_same, fun dx hdx hne => ⟨rfl, dx, [(f, v)], upd_same, by rw [upd_ne hne, upd_same], by rw [upd_ne hne] at hdx; exact hdx, ?_⟩⟩⟩
    rw [upd_ne hne] at hdx
    rw [xd_end ha hne]
    have hB := c1.Bnone hdx
    exact w (some dx) B1 _ (c1.other hB (c1.fresh hdx)) (e1.trans (Evo.refl.other (.of hdx))) ⟨dx, v, rfl, upd_same, r1⟩
/-- raise X(e) -/
theorem sp_raiseG (h : EvA K tA env S [.d d] S1) (oc : OexG K C) (hf : PySem.W.findIn K (.ref C) f = some none) (hP : P.ok = XOk K E (.exc C (some (f, d))) (S1.take n)) : SP K n (fun _ σ H => tMkO C (spXg K C f) [] tA σ H fun cls d H' => E cls d H') env S P :=
  fun B0 H0 as0 Bk B H as σ hl f0 c g D m => mkg_want h oc hf c g (m.want hP f0 hl rfl)
theorem sp_raiseGq (h : EvA K tA env S [.d d] S1) (oc : OexG K C) (hf : PySem.W.findIn K (.ref C) f = some none) (hP : P.ok = XOk K E (.exc C (some (f, d))) (S1.take n)) : SP K n (tSeq (fun _ σ H => tMkO C (spXg K C f) [] tA σ H fun cls d H' => E cls d H') u) env S P :=
  fun B0 H0 as0 Bk B H as σ hl f0 c g D m => mkg_want h oc hf c g (m.want hP f0 hl rfl)
end
/-! ### what is told of an exception may hang on the heap (a kept tuple) -/
def EMetH (res : Hp → Addr → Option (Str × V) → MR → Prop) (Q : VK) : XK := fun cls d H' => ∃ C p r, cls = .ref C ∧ res H' C p r ∧ PayV H' d p ∧ Ret r H' Q
structure MetOkH (TT : (XK → Hp → VK → Prop) → Hp → VK → Prop) (r0 : MR) (res : Hp → Addr → Option (Str × V) → MR → Prop) : Prop where
  run : ∀ tl H Q, (tl (EMetH res Q) H fun _ H' => Ret r0 H' Q) → TT tl H Q
section
variable {K : PySem.W.Frag} {env : Env1} {S S1 : List Dat} {x : Sl} {d : Dat} {T : List (Addr × Str)} {TT : (XK → Hp → VK → Prop) → Hp → VK → Prop} {t : XK → TE} {r0 r : MR} {res : Hp → Addr → Option (Str × V) → MR → Prop} {C : Addr} {p : Option (Str × Dat)}
theorem ev_metH (M : MetOkH TT r0 res) (hT : AllTabs T S) (h : ∀ E, Ev K (t E) env S x S1) (hr : RepM K r0 d) : Ev K (LamX.tLam T TT t) env S (.d d) S1 := fun B H as σ c g Q q =>
  ⟨c.tabs hT.1, fun H1 eN t1 => by
    obtain ⟨c1, e1⟩ := c.lam hT.1 hT.2 eN t1
    exact M.run _ _ _ (h _ _ H1 as σ c1 (g.mono e1.ex) _ fun v B2 H2 c2 e2 r2 => Ret.of hr c2 (e1.trans e2) q)⟩
theorem ev_metHX (M : MetOkH TT r0 res) (hT : AllTabs T S) (h : ∀ E, EvX K E (t E) env S C p S1) (hr : RepM K r d) (hres : ∀ H : Hp, match p with | none => res H C none r | some (f, x) => ∀ v, Rep K H v x → res H C (some (f, v)) r) :
    Ev K (LamX.tLam T TT t) env S (.d d) S1 := fun B H as σ c g Q q =>
  ⟨c.tabs hT.1, fun H1 eN t1 => by
    obtain ⟨c1, e1⟩ := c.lam hT.1 hT.2 eN t1
    refine M.run _ _ _ (h _ _ H1 as σ c1 (g.mono e1.ex) (fun dx B2 H2 c2 e2 pa => ?_) _)
    have R := Ret.of (Q := Q) hr c2 (e1.trans e2) q
    cases p with
    | none => exact ⟨C, none, r, rfl, hres H2, trivial, R⟩
    | some fx =>
      obtain ⟨f, x⟩ := fx
      obtain ⟨dd, v, h1, h2, h3⟩ := pa
      exact ⟨C, some (f, v), r, rfl, hres H2 v (h3.mono c2.ex), ⟨dd, h1, h2⟩, R⟩⟩
end
end RW

set_option Elab.async false
set_option linter.all false
set_option maxRecDepth 100000
set_option maxHeartbeats 4000000
namespace RW
open PySem PySem.Spec PyProof.Rows L2
open Evl (Ex)
/-! ### any value: what the checks of a program ask -/
/-- a value of a menu: known at any depth -/
inductive KD : Dat → Prop
  | non : KD .non
  | bl (b : Bool) : KD (.bl b)
  | int (i : Int) : KD (.int i)
  | str (s : Str) : KD (.str s)
  | dd : KD .dd
  | tup {xs : List Dat} (h : ∀ d ∈ xs, KD d) (l : xs.length ≤ 1000) : KD (.tup xs)
  | lst {xs : List Dat} (h : ∀ d ∈ xs, KD d) (l : xs.length ≤ 1000) : KD (.lst xs)
def isIntD : Dat → Bool
  | .int _ => true
  | .bl _ => true
  | _ => false
def isTupD : Dat → Bool
  | .tup _ => true
  | _ => false
def isStrD : Dat → Bool
  | .str _ => true
  | _ => false
def shD : Dat → Bool
  | .int i => decide (-(10 ^ 60) < i) && decide (i < 10 ^ 60)
  | _ => false
def lenD : Dat → Nat
  | .tup xs => xs.length
  | _ => 0
def innD : Dat → List Dat
  | .tup xs => xs
  | _ => []
section
variable {K : PySem.W.Frag} {env : Env1} {S : List Dat} {d : Dat} {i : Nat} {b c : Bool} {neg : Bool}
theorem KD.ty (h : KD d) : ∃ T, tyD d = some T := by cases h <;> exact ⟨_, rfl⟩
theorem ck_int (h : KD d) : CallD K (rIsi K) [.d d, .d (.ty "int")] S (.bl (isIntD d)) S := by
  cases h <;> first | exact cd_isi (b := true) rfl (by decide +kernel) | exact cd_isi (b := false) rfl (by decide +kernel)
theorem ck_tup (h : KD d) : CallD K (rIsi K) [.d d, .d (.ty "tuple")] S (.bl (isTupD d)) S := by
  cases h <;> first | exact cd_isi (b := true) rfl (by decide +kernel) | exact cd_isi (b := false) rfl (by decide +kernel)
theorem ck_str (h : KD d) : CallD K (rIsi K) [.d d, .d (.ty "str")] S (.bl (isStrD d)) S := by
  cases h <;> first | exact cd_isi (b := true) rfl (by decide +kernel) | exact cd_isi (b := false) rfl (by decide +kernel)
/-- what an own class asks of the built-in ones -/
structure KtC (K : PySem.W.Frag) (C : Addr) : Prop where
  non : PySem.W.kitOne K (.type "NoneType") (.ref C) = some false
  bl : PySem.W.kitOne K (.type "bool") (.ref C) = some false
  int : PySem.W.kitOne K (.type "int") (.ref C) = some false
  str : PySem.W.kitOne K (.type "str") (.ref C) = some false
  tup : PySem.W.kitOne K (.type "tuple") (.ref C) = some false
  lst : PySem.W.kitOne K (.type "list") (.ref C) = some false
  dd : PySem.W.kitOne K (.type "dict") (.ref C) = some false
theorem ck_own {C : Addr} (k : KtC K C) (h : KD d) : CallD K (rIsi K) [.d d, .d (.adr C)] S (.bl false) S := by
  cases h
  · exact cd_isiN rfl k.non
  · exact cd_isiN rfl k.bl
  · exact cd_isiN rfl k.int
  · exact cd_isiN rfl k.str
  · exact cd_isiN rfl k.dd
  · exact cd_isiN rfl k.tup
  · exact cd_isiN rfl k.lst
theorem o_isX_bl : Op2 K (rIsX neg) (.d (.bl c)) (.d (.bl b)) S (.bl (neg != decide (c = b))) := fun B H as v w k h1 h2 Q q => by
  cases h1; cases h2
  refine ⟨b, rfl, ?_⟩
  have e : decide (V.bl c = V.bl b) = decide (c = b) := by cases c <;> cases b <;> rfl
  rw [e]
  exact q _ B H k Evo.refl (.bl _)
theorem o_isX_blE {a : Bool} (h : (neg != decide (c = b)) = a) : Op2 K (rIsX neg) (.d (.bl c)) (.d (.bl b)) S (.bl a) := h ▸ o_isX_bl
theorem bad_int (v : Int) : (decide (v ≤ -(10 ^ 60)) || decide (10 ^ 60 ≤ v)) = !shD (.int v) := by
  have e1 : decide (v ≤ -(10 ^ 60)) = !decide (-(10 ^ 60) < v) := by
    by_cases h : -(10 ^ 60) < v
    · rw [decide_eq_true h, decide_eq_false (by omega)]; rfl
    · rw [decide_eq_false h, decide_eq_true (by omega)]; rfl
  have e2 : decide (10 ^ 60 ≤ v) = !decide (v < 10 ^ 60) := by
    by_cases h : v < 10 ^ 60
    · rw [decide_eq_true h, decide_eq_false (by omega)]; rfl
    · rw [decide_eq_false h, decide_eq_true (by omega)]; rfl
  rw [e1, e2]
  show (!_ || !_) = !(decide (-(10 ^ 60) < v) && decide (v < 10 ^ 60))
  rw [Bool.not_and]
/-- not isinstance(x, int) or x is True or x is False or x <= BENEATH or x >= BEYOND -/
theorem et_bad (hd : KD d) (he : env[i]? = some (some (.d d))) :
    EvT K (tOr (tNot (tTru K (tCB (rIsi K) (tCons (tVar i) (tCons (tC (.ty "int")) tNil))))) (tOr (tTest (tOp (rIsX false) (tVar i) (tC (.bl true)))) (tOr (tTest (tOp (rIsX false) (tVar i) (tC (.bl false))))
      (tOr (tTest (tOp (rI0 fun i j => V.bl (decide (i ≤ j))) (tVar i) (tC (.int (-(10 ^ 60)))))) (tTest (tOp (rI0 fun i j => V.bl (decide (j ≤ i))) (tVar i) (tC (.int (10 ^ 60))))))))) env S (!shD d) S := by
  have h1 : EvT K (tNot (tTru K (tCB (rIsi K) (tCons (tVar i) (tCons (tC (.ty "int")) tNil))))) env S (!isIntD d) S := et_not (et_bl (ev_cb (ea_cons (ev_var he) (ea_cons ev_ty ea_nil)) (ck_int hd)))
  by_cases hi : isIntD d = true
  · rw [hi] at h1
    cases d <;> first
      | (cases hi)
      | skip
    · rename_i v
      refine et_orP (a := false) (b := true) h1 fun _ => ?_
      cases v
      · exact et_orP (a := false) (b := true) (et_test (ev_op (ev_var he) ev_bl (o_isX_blE rfl))) fun _ => et_orP (a := true) (b := false) (et_test (ev_op (ev_var he) ev_bl (o_isX_blE rfl))) fun h => by cases h
      · exact et_orP (a := true) (b := false) (et_test (ev_op (ev_var he) ev_bl (o_isX_blE rfl))) fun h => by cases h
    · rename_i v
      refine et_orP (a := false) (b := !shD (.int v)) h1 fun _ => ?_
      refine et_orP (a := false) (b := !shD (.int v)) (et_test (ev_op (ev_var he) ev_bl o_isX_int)) fun _ => ?_
      refine et_orP (a := false) (b := !shD (.int v)) (et_test (ev_op (ev_var he) ev_bl o_isX_int)) fun _ => ?_
      exact (et_orP (a := decide (v ≤ -(10 ^ 60))) (b := decide (10 ^ 60 ≤ v)) (et_test (ev_op (ev_var he) ev_int o_le)) fun _ => et_test (ev_op (ev_var he) ev_int o_ge)).to (bad_int v)
  · have hf : isIntD d = false := by simpa using hi
    rw [hf] at h1
    have e : shD d = false := by cases d <;> first | rfl | (simp [isIntD] at hf)
    rw [e]
    exact et_orP (a := true) (b := false) h1 fun h => by cases h
end
/-! rows of any value -/
def rowB (n : Nat) : Dat → Bool
  | .tup xs => decide (xs.length = n) && xs.all shD
  | _ => false
def srB (d : Dat) (lo hi : Int) : Bool := match d with
  | .tup xs => decide (lo ≤ xs.length) && decide ((xs.length : Int) ≤ hi) && xs.all shD
  | _ => false
def asrB (v : Dat) (mr ml : Int) : Bool := match v with
  | .tup (r0 :: rs) => decide (((r0 :: rs).length : Int) ≤ mr) && (isTupD r0 && (decide (1 ≤ lenD r0) && decide ((lenD r0 : Int) ≤ ml)) && (r0 :: rs).all (rowB (lenD r0)))
  | _ => false
def intD : Dat → Int
  | .int i => i
  | _ => 0
def ascB : List (List Int) → Bool
  | [] => true
  | [_] => true
  | x :: y :: r => RwS.lx x y && ascB (y :: r)
def lotB (v : Dat) : Bool := asrB v 400 8 && ascB ((innD v).map fun r => (innD r).map intD)
def rdB : Dat → Bool
  | .tup [a, b] => lotB a && lotB b && decide (lenD ((innD a).getD 0 .non) = lenD ((innD b).getD 0 .non))
  | _ => false
theorem shD_int {d : Dat} (h : shD d = true) : d = .int (intD d) := by
  cases d <;> first | rfl | (simp [shD] at h)
theorem all_sh {xs : List Dat} (h : xs.all shD = true) : xs = (xs.map intD).map Dat.int := by
  induction xs with
  | nil => rfl
  | cons x xs ih =>
    rw [List.all_cons, Bool.and_eq_true] at h
    rw [List.map_cons, List.map_cons, ← ih h.2, ← shD_int h.1]
theorem asr_rows {v : Dat} {mr ml : Int} (h : asrB v mr ml = true) : ∃ (n : Nat) (rows : List (List Int)), v = .tup (rows.map fun r => Dat.tup (r.map Dat.int)) ∧ rows ≠ [] ∧ (rows.length : Int) ≤ mr ∧ 1 ≤ n ∧ (n : Int) ≤ ml ∧ (∀ r ∈ rows, r.length = n ∧ ∀ x ∈ r, -(10 ^ 60) < x ∧ x < 10 ^ 60) := by
  unfold asrB at h
  split at h
  · rename_i r0 rs
    simp only [Bool.and_eq_true, decide_eq_true_eq] at h
    obtain ⟨h1, ⟨h2, h3, h4⟩, h5⟩ := h
    refine ⟨lenD r0, (r0 :: rs).map fun r => (innD r).map intD, ?_, by simp, by simpa using h1, h3, h4, fun r hr => ?_⟩
    · congr 1
      rw [List.map_map]
      have key : ∀ l : List Dat, l.all (rowB (lenD r0)) = true → l = l.map ((fun r => Dat.tup (r.map Dat.int)) ∘ fun r => (innD r).map intD) := by
        intro l
        induction l with
        | nil => intro _; rfl
        | cons d l ih =>
          intro hl
          rw [List.all_cons, Bool.and_eq_true] at hl
          rw [List.map_cons, ← ih hl.2]
          congr 1
          cases d <;> first
            | (have := hl.1; simp [rowB] at this; done)
            | (rename_i xs
               have hx := hl.1
               unfold rowB at hx
               rw [Bool.and_eq_true] at hx
               exact congrArg Dat.tup (all_sh hx.2))
      exact key _ h5
    · obtain ⟨d, hd, rfl⟩ := List.mem_map.mp hr
      have hx := List.all_eq_true.mp h5 d hd
      cases d <;> first
        | (simp [rowB] at hx; done)
        | (rename_i xs
           unfold rowB at hx
           rw [Bool.and_eq_true, decide_eq_true_eq] at hx
           refine ⟨by show (List.map intD xs).length = _; rw [List.length_map]; exact hx.1, fun x hxm => ?_⟩
           obtain ⟨e, he, rfl⟩ := List.mem_map.mp hxm
           have hs := List.all_eq_true.mp hx.2 e he
           have e2 := shD_int hs
           rw [e2] at hs
           unfold shD at hs
           rw [Bool.and_eq_true, decide_eq_true_eq, decide_eq_true_eq] at hs
           exact hs)
  · cases h
/-! a promise with two cases -/
theorem spr_or {K : PySem.W.Frag} {G1 G2 : List Sl → List Dat → Out → List Dat → Prop} {vs : List V} {H : Hp} {Q : VK} {E : XK} (h : SpR K (fun ss S o S' => G1 ss S o S' ∨ G2 ss S o S') vs H Q E) : SpR K G1 vs H Q E ∨ SpR K G2 vs H Q E := by
  obtain ⟨B, as, S, ss, o, S', c, rs, g, q, qx⟩ := h
  rcases g with g | g
  · exact .inl ⟨B, as, S, ss, o, S', c, rs, g, q, qx⟩
  · exact .inr ⟨B, as, S, ss, o, S', c, rs, g, q, qx⟩
theorem passR {X : Cx} {E : XK} (tk : Takes X (fun cls d _ H => E cls d H)) : Passes (L2.CX X.prog X.w) X E := passes_call tk fun _ _ _ _ h => h
end RW

set_option Elab.async false
set_option linter.all false
set_option maxRecDepth 100000
set_option maxHeartbeats 4000000
namespace RW
open PySem PySem.Spec PyProof.Rows L2
open Evl (Ex)
/-- an expression that is never reached -/
theorem pe_no {X : Cx} {e : Expr} : PE X e (fun _ _ _ => False) := ⟨fun _ _ _ _ _ _ h => h.elim⟩
/-- one of several readings -/
theorem pe_any {X : Cx} {e : Expr} {ι : Type} {t : ι → TE} (h : ∀ i, PE X e (t i)) : PE X e (fun σ H Q => ∃ i, t i σ H Q) := ⟨fun pins s σ H Q I ⟨i, q⟩ => (h i).run pins s σ H Q I q⟩
/-! ### a local name that holds a def which may raise -/
structure HeldX (P : Program) (w : World) (K : PySem.W.Frag) (mg : Str → Option Value) (base : Heap) (k : Nat) (f : Addr) (sp : Sp) : Prop where
  ex : ∃ (fd : FuncData) (ps : List Str), FnOk P w K mg base (L2.CX P w) k f fd ps sp ∧ PySem.W.keepIn K (.ref f) = true ∧ Binds K fd ps []
def tCallX (i : Nat) (M : Addr → Option Sp) (E : XK) (t : TA) : TE := fun σ H Q => ∃ j : Addr × { sp : Sp // True }, M j.1 = some j.2.1 ∧ σ[i]? = some (some (.ref j.1)) ∧ t σ H fun vs H1 => j.2.1 (vs ++ []) H1 Q E
theorem pe_callLX {X : Cx} {k i : Nat} {M : Addr → Option Sp} {E : XK} {x : Str} {p pos : Pos} {e : Expr} {es : List Expr} {t : TA} (A : ∀ f sp, M f = some sp → HeldX X.prog X.w X.K X.mg X.base k f sp) (hr : Room k X.A) (hx : Passes (L2.CX X.prog X.w) X E) (ha : PA X (e :: es) t) (hN : X.N[i]? = some x := by rfl)
    (hv : Vis X.env.scope x := by first | exact Or.inl rfl | exact Or.inr (Or.inl rfl) | exact Or.inr (Or.inr rfl)) (hdb : (x == ("__debug__" : Str)) = false := by decide) (hcd : (x == ("__classdict__" : Str)) = false := by decide)
    (he : starEach (e :: es) X.env = (false, eval e X.env) :: starEach es X.env := by rfl) (hpl : (backTo pos (starEach es X.env)).any (·.1) = false := by rfl) : PE X (.Call (.Name x p) (e :: es) [] pos) (tCallX i M E t) := by
  refine ⟨fun pins s σ H Q I h => ?_⟩
  obtain ⟨⟨f, sp, _⟩, hM, hs, ht⟩ := h
  obtain ⟨fd, ps, F, hk, hb⟩ := (A f sp hM).ex
  exact (pe_callL (i := i) (f := f) (sp := sp) (dvs := []) (E := E) F hr hN hv hk hb .nil hx ha hdb hcd he hpl).run pins s σ H Q I ⟨hs, ht⟩
section
variable {K : PySem.W.Frag} {env : Env1} {S S1 S2 : List Dat} {d : Dat} {i : Nat} {tA : TA} {M : Addr → Option Sp} {E : XK} {f C : Addr} {p : Option (Str × Dat)} {G : List Sl → List Dat → Out → List Dat → Prop} {ss : List Sl} {te ta tb : TE}
theorem ev_callLR (hi : env[i]? = some (some (.d (.adr f)))) (hM : M f = some (SpR K G)) (h : EvA K tA env S ss S1) (hg : G ss S1 (.val d) S2) : Ev K (tCallX i M E tA) env S (.d d) S2 := fun B H as σ c g Q q => by
  obtain ⟨v, h1, h2⟩ := g.2 i _ hi
  cases h2
  exact ⟨(f, ⟨_, trivial⟩), hM, h1, ev_callR h hg B H as σ c g Q q⟩
theorem ev_callLX (hi : env[i]? = some (some (.d (.adr f)))) (hM : M f = some (SpR K G)) (h : EvA K tA env S ss S1) (hg : G ss S1 (.exc C p) S2) : EvX K E (tCallX i M E tA) env S C p S2 := fun B H as σ c g w Q => by
  obtain ⟨v, h1, h2⟩ := g.2 i _ hi
  cases h2
  exact ⟨(f, ⟨_, trivial⟩), hM, h1, ev_callX h hg B H as σ c g w Q⟩
/-- {} as a value -/
theorem ev_dd : Ev K tDNewT env S (.d .dd) S := fun B H as σ c g Q q => fun p hp =>
  q (.ref p) (upd B p (.dT [])) _ (c.new hp) (Evo.new c hp) (.dd upd_same)
/-- x * n of a text -/
def rMulS : R2 := fun x y H Q => ∃ a n, x = .str a ∧ y = .int n ∧ MulOk a n ∧ Q (.str (Txt.mul a n)) H
theorem op_mulS {X : Cx} : OpR X (binaryOp .Mult) rMulS := by
  intro pins s σ H x y v u Q I rx ry h
  obtain ⟨a, n, rfl, rfl, hm, q⟩ := h
  obtain ⟨t, rfl⟩ := rx
  obtain ⟨t2, rfl⟩ := ry
  exact SB.mul hm fun t' k => ⟨.str (Txt.mul a n), H, I.tok _, ⟨_, rfl⟩, q⟩
theorem o_mulS {a : Str} {n : Int} (h : MulOk a n) : Op2 K rMulS (.d (.str a)) (.d (.int n)) S (.str (Txt.mul a n)) := fun B H as v w c r1 r2 Q q => by
  cases r1; cases r2
  exact ⟨a, n, rfl, rfl, h, q _ B H c Evo.refl (.str _)⟩
end
/-! ### the end of a law with lambdas -/
structure LamEnd (l : PySem.W.OpenLaw) (q : Program) (w : World) (K : PySem.W.Frag) (k n : Nat) (x : Str) (mg : Str → Option Value) (fa : Addr) : Prop where
  ex : ∃ (fd : FuncData) (cs : List (Addr × Addr)) (sp : Sp), (∀ p ∈ cs, ∃ (y : Str) (d : DefRec), (recsOf q).find? (fun e => e.name == y) = some d ∧ PySem.W.tabIn K y = some p) ∧ (∀ p ∈ cs, K.lookup p.2 = none) ∧ (∀ (s : Shared) (u : Value), BindsTo s fd ⟨[u], []⟩ [(x, u)]) ∧
    (∀ (H : Hp) (a : Addr) (ns : List Int), ns.length ≤ n → (∀ z ∈ ns, Builtin.Int.intBits z ≤ 1048576) → (∀ p ∈ cs, H p.2 = some (.tbl #[])) → SqL K H a (ns.map V.int) → sp [.ref a] H (fun v _ => v = .bl true) fun _ _ _ => False) ∧
    ∀ base : Heap, K.In base → base.Ns mainGlobals mg → (∀ p ∈ cs, LamX.TabB base mg p.1 p.2) → FnOk l.prog w K mg base CX0 k fa fd [x] sp
theorem walk_lam {l : PySem.W.OpenLaw} {n k : Nat} {q : Program} {loose : List Str} {XP : (Str → Option Value) → Heap → Prop} {YP : World → Heap → Prop} {d : DefRec} {K : Params → PySem.W.Frag} {x : Str}
    (hn : l.most = some n) (hn2 : n ≤ sizeLine) (hdf : d.params.defaults = []) (hr : Room k callerA) (hY : ∀ (w : World) (h : Heap), YP w h → (K w.params).In h)
    (F : ∀ (w : World) (mg : Str → Option Value) (fa : Addr) (h : Heap), (K w.params).In h → h.Ns mainGlobals mg → mg d.name = some (.ref fa) → LamEnd l q w (K w.params) k n x mg fa) :
    PySem.W.WalkO q loose XP YP l.row.toRowW d [] (fun f vs => PySem.call f vs) := by
  refine Att.attach_callB hn hdf fun w s₀ s₁ mg mb fa o pm cd doc a vs ns G Y ho hd hcd hmg hobj hints hlen hbits hg => ?_
  have KX := hY w _ Y
  obtain ⟨fd, cs, sp, hT, nT, hb, hsp, hF⟩ := (F w mg fa _ KX G.T.g hmg).ex
  have key : ∀ p ∈ cs, PySem.W.CodeHd s₁.heap p.1 p.2 ∧ s₁.heap.get? p.2 = some (PySem.W.tabObj #[]) := fun p hp => by
    obtain ⟨y, d', h1, h2⟩ := hT p hp
    exact PySem.W.tab_of G.T KX h1 h2
  exact LamX.law_callTs KX G.T.g G.T.b G.T.builtins G.T.nolimit hg (fun p hp => (key p hp).2) nT (fun p hp => (key p hp).1) G.T.bmain hobj hints (Nat.le_trans hlen hn2) hr hF hb (fun H hH hS => hsp H a ns hlen hbits hH hS) fun H e s' z => z
/-! ### the start: the script, and the tables among what is changed -/
section
variable {K : PySem.W.Frag} {B H : Hp} {a : Addr} {ns : List Int} {Ts : List (Addr × Str)}
theorem tabs_ok (nd : (Ts.map (·.1)).Nodup) (hH : ∀ p ∈ Ts, H p.1 = some (.tbl #[])) (ex : Ex B H) (hB : ∀ p ∈ Ts, B p.1 = none) (nt : ∀ (a : Addr) (ps : Array Value), B a ≠ some (.tbl ps)) :
    Ok K B H (Ts.map (·.1)) (Ts.map fun p => Dat.tab p.1 p.2) := by
  have key : ∀ (k : Nat) (b : Addr) (s : Dat), (Ts.map (·.1))[k]? = some b → (Ts.map fun p => Dat.tab p.1 p.2)[k]? = some s → ∃ q, s = .tab b q ∧ (b, q) ∈ Ts := fun k b s h1 h2 => by
    rw [List.getElem?_map, Option.map_eq_some_iff] at h1 h2
    obtain ⟨p, hp, rfl⟩ := h1
    obtain ⟨p2, hp2, rfl⟩ := h2
    rw [hp] at hp2; cases hp2
    exact ⟨p.2, rfl, List.mem_of_getElem? hp⟩
  refine ⟨ex, by simp, fun k b s h1 h2 => ?_, nd, fun k b s o h1 h2 h3 => ?_, nt, fun k d P h hd => ?_⟩
  · obtain ⟨q, rfl, hm⟩ := key k b s h1 h2
    refine ⟨hB _ hm, _, hH _ hm, trivial, fun pos cv h => ?_⟩
    cases h
  · obtain ⟨q, rfl, hm⟩ := key k b s h1 h2
    rw [hH _ hm] at h3
    cases h3
    exact fun _ _ _ _ z => nomatch z
  · rw [List.getElem?_map, Option.map_eq_some_iff] at h
    obtain ⟨p, hp, rfl⟩ := h
    cases hd
    rw [List.getElem?_map, hp]; rfl
theorem tabs_start (nd : (Ts.map (·.1)).Nodup) (hH : ∀ p ∈ Ts, H p.1 = some (.tbl #[])) (hS : SqL K H a (ns.map V.int)) :
    ∃ B, Ok K B H (Ts.map (·.1)) (Ts.map fun p => Dat.tab p.1 p.2) ∧ Rep K B (.ref a) (.scr ns) := by
  rcases hS with h | h
  · have nt : ∀ ps : Array Value, H a ≠ some (.tbl ps) := fun ps e => by
      rcases h with h | ⟨o, h⟩ <;> rw [e] at h <;> cases h
    refine ⟨fun b => if b = a then H a else none, tabs_ok nd hH (fun b o e => ?_) (fun p hp => ?_) (fun b ps e => ?_), .scr (.inl ?_)⟩
    · split at e
      · rename_i hb
        rw [hb]; exact e
      · cases e
    · split
      · rename_i e
        rw [← e, hH p hp] at nt
        exact absurd rfl (nt _)
      · rfl
    · split at e
      · exact nt ps e
      · cases e
    · unfold Rd at h ⊢
      have e : (fun b => if b = a then H a else none) a = H a := if_pos rfl
      rw [e]
      exact h
  · exact ⟨fun _ => none, tabs_ok nd hH (fun b o e => by cases e) (fun _ _ => rfl) (fun _ _ e => by cases e), .scr (.inr h)⟩
theorem all_tabs : AllTabs Ts (Ts.map fun p => Dat.tab p.1 p.2) := by
  refine ⟨fun p hp => ?_, fun k P q h => ?_⟩
  · obtain ⟨k, hk⟩ := List.getElem?_of_mem hp
    exact ⟨k, by rw [List.getElem?_map, hk]; rfl⟩
  · rw [List.getElem?_map, Option.map_eq_some_iff] at h
    obtain ⟨p, hp, e⟩ := h
    cases e
    exact List.mem_of_getElem? hp
end
theorem tab_in {K : PySem.W.Frag} {x : Str} {f c P : Addr} {oc cc : Value} {od cd' : Option Addr} {fd : FuncData} {sl csl : Array (Option Value)} {vs : Array Value} (h1 : PySem.W.nsIn K mainGlobals x = some (some (.ref f))) (h2 : K.lookup f = some ⟨oc, od, .func fd, sl⟩) (h3 : fd.code = .ref c)
    (h4 : K.lookup c = some ⟨cc, cd', .fields vs, csl⟩) (h5 : (vs[11]? : Option Value) = some (.ref P)) : PySem.W.tabIn K x = some (c, P) := by
  unfold PySem.W.tabIn
  rw [h1]
  dsimp only
  rw [h2]
  dsimp only
  rw [h3]
  dsimp only
  rw [h4]
  dsimp only
  rw [h5]
theorem exm_of {K : PySem.W.Frag} {C D : Addr} {b : Bool} (be : PySem.W.subIn K (.ref D) (.type "BaseException") = some true) (ic : PySem.W.isClsIn K D = true) (ty : PySem.W.typeIn K (.ref D) = some (.type "type")) (sb : PySem.W.subIn K (.ref C) (.ref D) = some b) :
    PySem.W.exmOne K (.ref C) (.ref D) = some b := by
  unfold PySem.W.exmOne
  rw [be, if_pos (by simp)]
  unfold PySem.W.kitCls
  have h4 : (PySem.W.clsIn K D).isSome = true := ic
  dsimp only
  rw [h4, ty, if_pos (by simp), sb]
theorem rec_of {q : Program} {y : Str} (h : ((recsOf q).find? fun e => e.name == y).isSome = true) : ∃ d : DefRec, (recsOf q).find? (fun e => e.name == y) = some d := Option.isSome_iff_exists.mp h
end RW

set_option Elab.async false
set_option linter.all false
set_option maxRecDepth 100000
set_option maxHeartbeats 4000000
namespace RW
open PySem PySem.Spec PyProof.Rows L2
open Evl (Ex)
/-! ### defs that are run where nothing is being shown (repr of a tuple or a list wants to know it) -/
abbrev Calm (A : Around) : Prop := A.guards = some []
structure FnG (P : Program) (w : World) (K : PySem.W.Frag) (mg : Str → Option Value) (base : Heap) (cx : CXT) (n : Nat) (f : Addr) (fd : FuncData) (ps : List Str) (sp : Sp) : Prop where
  many : ∀ xs H Q E, sp xs H Q E → xs.length = ps.length
  does : ∀ (A : Around) (up : List Env) (t : Shared) (H : Hp) (args : Args) (us : List Value) (xs : List V) (Q : VK) (E : XK), Calm A → Room n A → Env0 P w K mg base A up t H → Vals xs us → BindsTo t fd args (ps.zip us) → sp xs H Q E →
    codeAny (model P w) A (.call (.ref f) args) (CR cx up P w H t Q E) t
section
variable {P : Program} {w : World} {K : PySem.W.Frag} {mg : Str → Option Value} {base : Heap} {cx : CXT} {n : Nat} {f : Addr} {fd : FuncData} {ps : List Str} {sp : Sp}
theorem FnG.of (F : FnOk P w K mg base cx n f fd ps sp) : FnG P w K mg base cx n f fd ps sp :=
  ⟨F.len, fun A up t H args us xs Q E _ hr e hv hb hs => F.run A up t H args us xs Q E hr e hb hv hs⟩
/-- a def by its body, as long as nothing is being shown around it -/
theorem fng_body {name qual : Str} {prm : Arguments} {body : List Stmt} {sc : Scope} {v1 v2 v3 v4 cdv ct oc : Value} {an od : Option Addr} {osl : Array (Option Value)} {N : List Str}
    (lk : K.lookup f = some ⟨oc, od, .func (PySem.W.fnOf name qual prm body sc v1 v2 v3 v4 an cdv ct), osl⟩) (hcd : PySem.W.codeIn K cdv qual = true) (S : FnScope N ps sc) (many : ∀ xs H Q E, sp xs H Q E → xs.length = ps.length)
    (hb : ∀ (A : Around) (up : List Env) (t : Shared) (H : Hp) (xs : List V) (Q : VK) (E : XK), Calm (A.deeper (envOfC qual sc t.heap.objs.size f cdv)) → Room n (A.deeper (envOfC qual sc t.heap.objs.size f cdv)) → sp xs H Q E →
      ∃ r, PSs (cxOf cx P w K mg base N qual sc f cdv A up t H E) body r ∧ r { rt := Q, nx := fun _ T => Q .non T } (start N xs) H) :
    FnG P w K mg base cx (n + 1) f (PySem.W.fnOf name qual prm body sc v1 v2 v3 v4 an cdv ct) ps sp where
  many := many
  does := fun A up t H args us xs Q E hc hr e0 rv hargs hsp => by
    have hK : K.In t.heap := e0.mod.kin.keeps fun a o h => (e0.bs a o h).1
    refine codeAny_call_function hr.depth (hK _ _ lk) rfl S.co S.gen rfl (PySem.W.codeRec_of hK hcd) (hargs _ _ _ _ (wpAny_newFunctionEnv_cells S.kind (fun z hz => ?_) fun env he t1 fresh => ?_))
    · have hp := (List.of_mem_zip (show (z.1, z.2) ∈ ps.zip us from hz)).1
      exact (S.par _ hp).imp id fun h => ⟨h, PySem.W.cellsFrom_some _ _ _ (.inl h)⟩
    · subst he
      have hno : t.heap.NoLimit := e0.mod.nolimit.keeps fun a o h => (e0.bs a o h).1
      obtain ⟨r, hp, hq⟩ := hb A up t H xs Q E hc (hr.deeper _) hsp
      have J := inv_start (CX := cx) (E := E) S hr.hd e0 (many _ _ _ _ hsp) rv fresh
      refine ⟨hno.keeps fresh.toInCall.keep, codeAny_func (wpAny_mono (hp.run [] t1 _ H _ J hq) (fun fl t2 z => ?_) fun _ _ z => z)⟩
      cases fl with
      | next =>
        obtain ⟨_, H2, I2, q2⟩ := z
        exact ⟨.non, H2, I2.os, I2.bare, I2.base, I2.hok, rfl, q2⟩
      | ret u =>
        obtain ⟨x, _, H2, I2, ru, q2⟩ := z
        exact ⟨x, H2, I2.os, I2.bare, I2.base, I2.hok, ru, q2⟩
      | brk =>
        obtain ⟨_, _, _, no⟩ := z
        exact no.elim
      | cont =>
        obtain ⟨_, _, _, no⟩ := z
        exact no.elim
end
section
variable {X : Cx} {cx : CXT} {n : Nat} {f : Addr} {fd : FuncData} {ps : List Str} {sp : Sp} {E : XK} {x : Str} {p pos : Pos} {e : Expr} {es : List Expr} {t : TA}
/-- f(..) of such a def -/
theorem pe_callG (F : FnG X.prog X.w X.K X.mg X.base cx n f fd ps sp) (hc : Calm X.A) (hr : Room n X.A) (hg : Gl X x) (hm : X.mg x = some (.ref f)) (hk : PySem.W.keepIn X.K (.ref f) = true) (hb : L2.Binds X.K fd ps []) (hx : Passes cx X E) (ha : PA X (e :: es) t)
    (hdb : (x == ("__debug__" : Str)) = false := by decide) (he : starEach (e :: es) X.env = (false, eval e X.env) :: starEach es X.env := by rfl) (hpl : (backTo pos (starEach es X.env)).any (·.1) = false := by rfl) :
    PE X (.Call (.Name x p) (e :: es) [] pos) (tCall sp [] E t) := ⟨fun pins s σ H Q I h => by
  refine wpAny_Call_Name_kw (ld_glob I hg hm (PySem.W.callWith_K (h₀ := X.base) I.ok.mod.kin hk (thn (ha.run pos pins s σ H _ I h) fun us s1 q1 => ?_) he hpl) hdb)
  obtain ⟨xs, H1, I1, rv, hs⟩ := q1
  rw [List.append_nil] at hs
  have hn : us.length = ps.length := rv.length.symm.trans (F.many _ _ _ _ hs)
  have hbt : BindsTo s1 fd ⟨us, []⟩ (ps.zip us) := by
    have z := hb s1 us I1.kIn (by rw [List.append_nil]; exact hn)
    rwa [List.append_nil] at z
  refine ⟨I1.kIn, wpAny_call (codeAny_mono (F.does X.A X.stack s1 H1 ⟨us, []⟩ us xs Q E hc hr I1.env0 rv hbt hs) fun r s2 hq => ?_)⟩
  rcases r with err | fl
  · exact hx pins σ H1 s1 err s2 I1 hq
  · cases fl <;> first | exact I1.after hq | exact hq.elim⟩
end
/-! ### the law's end -/
section
variable {P : Program} {w : World} {K : PySem.W.Frag} {mg mb : Str → Option Value} {cx : CXT} {n : Nat} {fa a : Addr} {cs : List (Addr × Addr)} {fd : FuncData} {x : Str} {sp : Sp} {s : Shared} {vs : List Value} {ns : List Int}
/-- what is tracked when the law starts: the tables, and the script where the text doesn't hold it -/
def H1st (K : PySem.W.Frag) (cs : List (Addr × Addr)) (a : Addr) (vs : List Value) (ns : List Int) : Hp := fun b =>
  if b ∈ cs.map (·.2) then some (.tbl #[]) else if b = a ∧ K.lookup a = none then some (.frz { cls := .type "list", data := .seq vs.toArray } (.lst (ns.map V.int))) else none
theorem h1_tab {b : Addr} (h : b ∈ cs.map (·.2)) : H1st K cs a vs ns b = some (.tbl #[]) := if_pos h
theorem h1_a (h : a ∉ cs.map (·.2)) (hk : K.lookup a = none) : H1st K cs a vs ns a = some (.frz { cls := .type "list", data := .seq vs.toArray } (.lst (ns.map V.int))) := (if_neg h).trans (if_pos ⟨rfl, hk⟩)
theorem h1_some {b : Addr} {u : HO} (h : H1st K cs a vs ns b = some u) : (b ∈ cs.map (·.2) ∧ u = .tbl #[]) ∨ (b = a ∧ K.lookup a = none ∧ u = .frz { cls := .type "list", data := .seq vs.toArray } (.lst (ns.map V.int))) := by
  unfold H1st at h
  split at h
  · next hb => exact .inl ⟨hb, (Option.some.inj h).symm⟩
  · split at h
    · next hb => exact .inr ⟨hb.1, hb.2, (Option.some.inj h).symm⟩
    · cases h
structure Start1 (K : PySem.W.Frag) (mg mb : Str → Option Value) (cs : List (Addr × Addr)) (a : Addr) (vs : List Value) (ns : List Int) (s : Shared) : Prop where
  kin : K.In s.heap
  glob : s.heap.Ns mainGlobals mg
  blt : s.heap.Ns builtinsNs mb
  blt2 : ∀ x : Str, x ≠ "__name__" → mb x = bootBuiltins x
  nolim : s.heap.NoLimit
  gens : s.gens = #[]
  tab : ∀ p ∈ cs, s.heap.get? p.2 = some { cls := .none, data := .fields #[] }
  ntab : ∀ p ∈ cs, K.lookup p.2 = none
  code : ∀ p ∈ cs, PySem.W.CodeHd s.heap p.1 p.2
  bmod : ∃ (bm : Addr) (ob : Obj), mg "__builtins__" = some (.ref bm) ∧ bm ≠ builtinsNs ∧ s.heap.get? bm = some ob ∧ ob.cls = .type "module" ∧ ob.dict = some builtinsNs ∧ ob.data = .plain
  obj : s.heap.get? a = some { cls := .type "list", data := .seq vs.toArray }
  are : IntsAre vs ns
  len : ns.length ≤ sizeLine
variable (Z : Start1 K mg mb cs a vs ns s)
include Z
theorem Start1.tabAt {b : Addr} (h : b ∈ cs.map (·.2)) : s.heap.get? b = some { cls := .none, data := .fields #[] } := by
  obtain ⟨q, hq, rfl⟩ := List.mem_map.mp h
  exact Z.tab q hq
theorem Start1.notTab : a ∉ cs.map (·.2) := fun h => by
  have h2 := (Z.tabAt h).symm.trans Z.obj
  have h3 := congrArg Obj.data (Option.some.inj h2)
  cases h3
/-- what is neither a list nor an empty table is not tracked -/
theorem Start1.off {b : Addr} {o : Obj} (e : s.heap.get? b = some o) (h1 : ∀ its k, o.data ≠ .seq its k) (h2 : o.data ≠ .fields #[]) : H1st K cs a vs ns b = none := by
  cases h : H1st K cs a vs ns b with
  | none => rfl
  | some u =>
    rcases h1_some h with ⟨hb, _⟩ | ⟨rfl, _, _⟩
    · have z := e.symm.trans (Z.tabAt hb)
      cases z
      exact absurd rfl h2
    · have z := e.symm.trans Z.obj
      cases z
      exact absurd rfl (h1 _ _)
theorem Start1.free {b : Addr} {o : Obj} (h : K.lookup b = some o) : H1st K cs a vs ns b = none := by
  cases e : H1st K cs a vs ns b with
  | none => rfl
  | some u =>
    rcases h1_some e with ⟨hb, _⟩ | ⟨rfl, hk, _⟩
    · obtain ⟨q, hq, rfl⟩ := List.mem_map.mp hb
      rw [Z.ntab q hq] at h; cases h
    · rw [hk] at h; cases h
theorem Start1.keepNs {b : Addr} {m : Str → Option Value} (h : s.heap.Ns b m) : (hidT s.heap (H1st K cs a vs ns)).Ns b m := by
  obtain ⟨o, es, k, e, hd, r⟩ := h
  refine ⟨o, es, k, hidT_get e (Z.off e (fun its j z => ?_) fun z => ?_), hd, r⟩ <;> (rw [hd] at z; cases z)
theorem Start1.mod : L2.Mod K mg (hidT s.heap (H1st K cs a vs ns)) where
  kin := fun b o e => hidT_get (Z.kin b o e) (Z.free e)
  glob := Z.keepNs Z.glob
  blt := ⟨mb, Z.keepNs Z.blt, Z.blt2⟩
  nolimit := by
    obtain ⟨m, h1, h2⟩ := Z.nolim
    exact ⟨m, Z.keepNs h1, h2⟩
theorem Start1.tabB {p : Addr × Addr} (hp : p ∈ cs) : LamX.TabB (hidT s.heap (H1st K cs a vs ns)) mg p.1 p.2 where
  code := by
    obtain ⟨o, us, fi, tf, fl, tg, b, tx, tt, e1, e2, e3, e4, r⟩ := Z.code p hp
    refine ⟨o, us, fi, tf, fl, tg, b, tx, tt, hidT_get e1 (Z.off e1 (fun its j z => ?_) fun z => ?_), e2, e3, e4, r⟩
    · rw [e3] at z; cases z
    · rw [e3] at z
      cases z
      simp at e4
  bm := by
    obtain ⟨bm, ob, h1, h2, h3, h4, h5, h6⟩ := Z.bmod
    refine ⟨bm, ob, h1, h2, fun z => ?_, fun z => ?_, hidT_get h3 (Z.off h3 (fun its j z => ?_) fun z => ?_), h4, h5, h6⟩
    · obtain ⟨o, es, k, e, hd, _⟩ := Z.glob
      rw [z] at h3
      have y := h3.symm.trans e
      cases y
      rw [h6] at hd; cases hd
    · rw [z] at h3
      have y := h3.symm.trans (Z.tab p hp)
      cases y
      cases h6
    · rw [h6] at z; cases z
    · rw [h6] at z; cases z
  gP := fun z => by
    obtain ⟨o, es, k, e, hd, _⟩ := Z.glob
    rw [z] at e
    have y := e.symm.trans (Z.tab p hp)
    cases y
    cases hd
theorem Start1.hok : HOk P w (H1st K cs a vs ns) s.heap := fun b u h => by
  rcases h1_some h with ⟨hb, rfl⟩ | ⟨rfl, _, rfl⟩
  · exact Z.tabAt hb
  · exact ⟨Z.obj, by rw [List.length_map]; exact Z.len, vs, _, vals_ints Z.are, Z.obj⟩
theorem Start1.sq : SqL K (H1st K cs a vs ns) a (ns.map V.int) := by
  cases hk : K.lookup a with
  | none => exact .inl (.inr ⟨_, h1_a Z.notTab hk⟩)
  | some o =>
    have y := (Z.kin a o hk).symm.trans Z.obj
    cases y
    refine .inr ⟨_, vs.toArray, _, hk, rfl, rfl, rfl, ?_, by simpa using vals_ints Z.are⟩
    rw [List.size_toArray, Z.are.length]; exact Z.len
theorem Start1.env0 : Env0 P w K mg (hidT s.heap (H1st K cs a vs ns)) callerA [] s (H1st K cs a vs ns) where
  frames := rfl
  mod := Z.mod
  bs := fun b o e => of_hidT e
  bsz := Nat.le_of_eq (hidT_size _ _)
  funs := trivial
  frf := fun b hb => (List.not_mem_nil (show b ∈ ([] : List Addr) from hb)).elim
  hok := Z.hok
  bare := .of_eq Z.gens
theorem Start1.old {H' : Hp} {s' : Shared} (un : Un (frs []) [] (H1st K cs a vs ns) H' s.heap s'.heap) (hok' : HOk P w H' s'.heap) : OldK s.heap s'.heap := by
  have stays : ∀ {b : Addr} {o : Obj}, b ∉ cs.map (·.2) → s.heap.get? b = some o → s'.heap.get? b = some o := fun {b o} nb e => by
    cases h : H1st K cs a vs ns b with
    | none => exact un.keep b o e h (List.not_mem_nil (a := b)) (List.not_mem_nil (a := b))
    | some u =>
      rcases h1_some h with ⟨hb, _⟩ | ⟨rfl, _, rfl⟩
      · exact absurd hb nb
      · have y := e.symm.trans Z.obj
        cases y
        exact (hok' _ _ (un.frzs _ _ _ h)).1
  have more : ∀ {b : Addr}, b ∈ cs.map (·.2) → ∃ us : Array Value, s'.heap.get? b = some { cls := .none, data := .fields us } := fun {b} hb => by
    obtain ⟨us, h⟩ := un.tbls b #[] (h1_tab hb)
    exact ⟨_, hok' b _ h⟩
  refine ⟨fun b o e => ?_, fun b o e => ?_⟩ <;> by_cases hb : b ∈ cs.map (·.2)
  · obtain ⟨us, hm⟩ := more hb
    have y := e.symm.trans (Z.tabAt hb)
    cases y
    obtain ⟨p, hp, rfl⟩ := List.mem_map.mp hb
    exact .inr (.inl ⟨((Z.code p hp).tab (Z.tab p hp)).isCodeTable, rfl, #[], us, rfl, by rw [Array.empty_append]; exact hm⟩)
  · exact .inl (stays hb e)
  · obtain ⟨us, hm⟩ := more hb
    exact ⟨_, hm⟩
  · exact ⟨o, stays hb e⟩
theorem Start1.runs (hr : Room n callerA) (F : ∀ h : Heap, K.In h → h.Ns mainGlobals mg → (∀ p ∈ cs, LamX.TabB h mg p.1 p.2) → FnG P w K mg h cx n fa fd [x] sp) (hbind : ∀ (t : Shared) (u : Value), BindsTo t fd ⟨[u], []⟩ [(x, u)])
    (hsp : ∀ H : Hp, (∀ p ∈ cs, H p.2 = some (.tbl #[])) → SqL K H a (ns.map V.int) → sp [.ref a] H (fun v _ => v = .bl true) fun _ _ _ => False) (hCX : ∀ H e t, cx [] H s (fun _ _ _ => False) e t → False) :
    codeAny (model P w) callerA (.call (.ref fa) ⟨[.ref a], []⟩) (fun r t => r = .ok (.ret (.bool true)) ∧ OldK s.heap t.heap ∧ t.os = s.os ∧ AllBare t.gens) s := by
  have M := Z.mod
  have hq := hsp _ (fun p hp => h1_tab (List.mem_map_of_mem hp)) Z.sq
  refine codeAny_mono ((F _ M.kin M.glob fun p hp => Z.tabB hp).does callerA [] s _ ⟨[.ref a], []⟩ [.ref a] [.ref a] _ _ rfl hr Z.env0 (.cons rfl .nil) (hbind s (.ref a)) hq) fun r t h => ?_
  rcases r with err | fl
  · exact (hCX _ err t h).elim
  · cases fl with
    | ret u =>
      obtain ⟨v, H', os, bare, un, ok', rv, hv⟩ := h
      have hv : v = .bl true := hv
      subst hv
      obtain rfl : u = Value.bool true := rv
      exact ⟨rfl, Z.old un ok', os, bare⟩
    | next => exact h.elim
    | brk => exact h.elim
    | cont => exact h.elim
end
structure LamEndG (l : PySem.W.OpenLaw) (q : Program) (w : World) (K : PySem.W.Frag) (k n : Nat) (x : Str) (mg : Str → Option Value) (fa : Addr) : Prop where
  ex : ∃ (fd : FuncData) (cs : List (Addr × Addr)) (sp : Sp), (∀ p ∈ cs, ∃ (y : Str) (d : DefRec), (recsOf q).find? (fun e => e.name == y) = some d ∧ PySem.W.tabIn K y = some p) ∧ (∀ p ∈ cs, K.lookup p.2 = none) ∧ (∀ (s : Shared) (u : Value), BindsTo s fd ⟨[u], []⟩ [(x, u)]) ∧
    (∀ (H : Hp) (a : Addr) (ns : List Int), ns.length ≤ n → (∀ z ∈ ns, Builtin.Int.intBits z ≤ 1048576) → (∀ p ∈ cs, H p.2 = some (.tbl #[])) → SqL K H a (ns.map V.int) → sp [.ref a] H (fun v _ => v = .bl true) fun _ _ _ => False) ∧
    ∀ base : Heap, K.In base → base.Ns mainGlobals mg → (∀ p ∈ cs, LamX.TabB base mg p.1 p.2) → FnG l.prog w K mg base CX0 k fa fd [x] sp
theorem walk_lamG {l : PySem.W.OpenLaw} {n k : Nat} {q : Program} {loose : List Str} {XP : (Str → Option Value) → Heap → Prop} {YP : World → Heap → Prop} {d : DefRec} {K : Params → PySem.W.Frag} {x : Str}
    (hn : l.most = some n) (hn2 : n ≤ sizeLine) (hdf : d.params.defaults = []) (hr : Room k callerA) (hY : ∀ (w : World) (h : Heap), YP w h → (K w.params).In h)
    (F : ∀ (w : World) (mg : Str → Option Value) (fa : Addr) (h : Heap), (K w.params).In h → h.Ns mainGlobals mg → mg d.name = some (.ref fa) → LamEndG l q w (K w.params) k n x mg fa) :
    PySem.W.WalkO q loose XP YP l.row.toRowW d [] (fun f vs => PySem.call f vs) := by
  refine Att.attach_callB hn hdf fun w s₀ s₁ mg mb fa o pm cd doc a vs ns G Y ho hd hcd hmg hobj hints hlen hbits hg => ?_
  have KX := hY w _ Y
  obtain ⟨fd, cs, sp, hT, nT, hb, hsp, hF⟩ := (F w mg fa _ KX G.T.g hmg).ex
  have key : ∀ p ∈ cs, PySem.W.CodeHd s₁.heap p.1 p.2 ∧ s₁.heap.get? p.2 = some (PySem.W.tabObj #[]) := fun p hp => by
    obtain ⟨y, d', h1, h2⟩ := hT p hp
    exact PySem.W.tab_of G.T KX h1 h2
  have Z : Start1 (K w.params) mg mb cs a vs ns s₁ := ⟨KX, G.T.g, G.T.b, G.T.builtins, G.T.nolimit, hg, fun p hp => (key p hp).2, nT, fun p hp => (key p hp).1, G.T.bmain, hobj, hints, Nat.le_trans hlen hn2⟩
  exact Z.runs hr hF hb (fun H hH hS => hsp H a ns hlen hbits hH hS) fun H e s' z => z
/-! ### repr of numbers, texts, None, tuples and lists -/
def rReprD (K : PySem.W.Frag) : List V → Hp → VK → Prop := fun xs H Q => ∃ v d, xs = [v] ∧ Dp K H v d ∧ (d.canLay0 = true ∧ d.showable = true ∧ d.depth ≤ 60 ∧ d.shown.length ≤ sizeLine) ∧ Q (.str d.shown) H
theorem call_reprD {X : Cx} (K : PySem.W.Frag) (hc : Calm X.A) (hu : X.A.units + 64 < cLine) (hK : X.K = K := by rfl) : CallR X (.builtin "repr") (rReprD K) := by
  subst hK
  intro pins s σ H xs us Q I r h
  obtain ⟨v, d, rfl, hd, ⟨h1, h2, h3, h4⟩, q⟩ := h
  obtain ⟨u, rfl, ru⟩ := vals1 r
  obtain ⟨as, rd⟩ := Dp.reads I d v u hd ru
  have nd := PyData.noDict_hsm (as := as) (PyData.hasDict_of_canLay d h1)
  have tell : ∀ {t : Tok} {tk : Nat}, EP X pins σ Q (.str d.shown t) { s with toks := tk } := fun {t tk} => ⟨.str _, H, I.tok _, ⟨_, rfl⟩, q⟩
  cases hd with
  | non => cases ru; exact PySem.P.repr_of_none tell
  | bl b => cases ru; exact PySem.P.repr_of_bool tell
  | int i =>
    obtain ⟨t, rfl⟩ := ru
    exact PySem.P.repr_of_int (of_decide_eq_true h2) tell
  | str x =>
    obtain ⟨t, rfl⟩ := ru
    exact PySem.P.repr_of_str tell h4
  | lst hs ha =>
    cases ru
    exact repr_of_reads' rd h2 nd hc (by omega) (fun _ _ e => e) (fun h' t tk k => ⟨.str _, H, I.kept k, ⟨_, rfl⟩, q⟩) h4
  | tup hs ha =>
    cases ru
    exact repr_of_reads' rd h2 nd hc (by omega) (fun _ _ e => e) (fun h' t tk k => ⟨.str _, H, I.kept k, ⟨_, rfl⟩, q⟩) h4
/-- what repr gives -/
def reprD (d : Dat) : Str := (py d).shown
theorem cd_reprD {K : PySem.W.Frag} {S : List Dat} {d : Dat} {m : Nat} (h : Pl m d) (hm : m ≤ 60) (h2 : (py d).showable = true) (h3 : (reprD d).length ≤ sizeLine) : CallD K (rReprD K) [.d d] S (.str (reprD d)) S := fun B H as vs c r Q q => by
  cases r with
  | cons r1 rr =>
    cases rr
    exact ⟨_, py d, rfl, h.dp _ (Rep.mono c.ex r1), ⟨h.lay.1, h2, Nat.le_trans h.lay.2 hm, h3⟩, q _ B H c Evo.refl (.str _)⟩
theorem Fun.okG {P : Program} {w : World} {K : PySem.W.Frag} {mg : Str → Option Value} {base : Heap} {x qual : Str} {st : Stmt} {f : Addr} {fd : FuncData} {N ps : List Str} {k : Nat} {sp : Sp} (F : Fun K x qual st f fd) (S : FnScope N ps (defScope st)) (many : ∀ vs H Q E, sp vs H Q E → vs.length = ps.length)
    (hb : ∀ (cdv : Value) (A : Around) (up : List Env) (t : Shared) (H : Hp) (vs : List V) (Q : VK) (E : XK), Calm (A.deeper (envOfC qual (defScope st) t.heap.objs.size f cdv)) → Room k (A.deeper (envOfC qual (defScope st) t.heap.objs.size f cdv)) → sp vs H Q E →
      ∃ r, PSs (cxOf CX0 P w K mg base N qual (defScope st) f cdv A up t H E).nox (defBody st) r ∧ r { nx := fun _ H' => Q .non H', rt := Q } (start N vs) H) : FnG P w K mg base CX0 (k + 1) f fd ps sp := by
  obtain ⟨oc, od, v1, v2, v3, an, cdv, ct, osl, rfl, lk, hcd⟩ := F.ex
  refine fng_body lk hcd S many fun A up t H vs Q E hc hr h => ?_
  obtain ⟨r, h1, h2⟩ := hb cdv A up t H vs Q E hc hr h
  exact ⟨r, PSs.nox h1, h2⟩
end RW

set_option Elab.async false
set_option linter.all false
set_option maxRecDepth 100000
set_option maxHeartbeats 4000000
namespace RW
open PySem PySem.Spec PyProof.Rows L2
open Evl (Ex)
/-- (..) * n, the frame told -/
theorem op_rpAK {X : Cx} (K : PySem.W.Frag) (hK : X.K = K := by rfl) : OpR X (binaryOp .Mult) (RwT.rRepA K) := by
  subst hK; exact RwT.op_repA
theorem op_ctAK {X : Cx} (K : PySem.W.Frag) (hK : X.K = K := by rfl) : OpR X (binaryOp .Add) (rCatA K) := by
  subst hK; exact op_catA
theorem call_lstK {X : Cx} (K : PySem.W.Frag) (hc : X.calm = true) (hK : X.K = K := by rfl) : CallR X (.type "list") (rLstD K) := by
  subst hK; exact call_lstD hc
/-! ### instances whose __init__ may raise -/
section
variable {K : PySem.W.Frag} {tA : TA} {env : Env1} {S S1 S2 : List Dat} {B B4 H H4 B1 H1 : Hp} {as : List Addr} {x dx : Addr} {C C0 : Addr} {ss : List Sl} {E : XK} {fs : List (Str × Dat)} {G : List Sl → List Dat → Out → List Dat → Prop} {p : Option (Str × Dat)} {d : Dat} {vs : List V}
theorem mk_start (c1 : Ok K B1 H1 as S1) (hx : H1 x = none) (hdx : H1 dx = none) : Ok K B1 (upd (upd H1 dx (.own x)) x (.ins C dx [])) (as ++ [x]) (S1 ++ [.ins C []]) := by
  have hB := c1.Bnone hx
  have hxa := c1.fresh hx
  have hdB := c1.Bnone hdx
  have hda := c1.fresh hdx
  have c2 : Ok K B1 (upd (upd H1 dx (.own x)) x (.ins C dx [])) as S1 := (c1.other hdB hda).other hB hxa
  exact c2.push hB hxa (CellAt.ofI upd_same .nil) (fun _ _ _ _ _ _ e q _ => by cases e; cases q)
theorem mk_args (c1 : Ok K B1 H1 as S1) (r1 : RepSs K B1 as vs ss) : RepSs K B1 (as ++ [x]) (.ref x :: (vs ++ [])) (.c S1.length :: ss) := by
  refine .cons ⟨x, by rw [← c1.len]; simp, rfl⟩ ?_
  rw [List.append_nil]
  have grow : ∀ {vs : List V} {ss : List Sl}, RepSs K B1 as vs ss → RepSs K B1 (as ++ [x]) vs ss := by
    intro vs ss h
    induction h with
    | nil => exact .nil
    | cons h _ ih => exact .cons h.grow ih
  exact grow r1
theorem mk_evo (c1 : Ok K B1 H1 as S1) (e1 : Evo B H as B1 H1) (hx : H1 x = none) (hdx : H1 dx = none) (e4 : Evo B1 (upd (upd H1 dx (.own x)) x (.ins C dx [])) (as ++ [x]) B4 H4) : Evo B H as B4 H4 := by
  have e2 : Evo B1 H1 as B1 (upd (upd H1 dx (.own x)) x (.ins C dx [])) := (Evo.refl.other (.of hdx)).other (.of hx)
  have x0 : Nn H x := e1.old hx
  have e12 := e1.trans e2
  refine ⟨e12.ex.trans e4.ex, fun a o hn q nt => e4.fr a o (fun hm => (List.mem_append.mp hm).elim hn fun z => ?_) (e12.fr a o hn q nt) nt, fun a o q nt => let ⟨o1, h1, n1⟩ := e12.pr a o q nt; (e4.gr a o1 h1 n1).elim (fun z => (e12.gr a o q nt).elim (fun z2 => .inl (z.trans z2)) fun ⟨o, fo, h⟩ => .inr ⟨o, fo, e4.tp a o fo h⟩) .inr, fun a o fo h => e4.tp a o fo (e12.tp a o fo h), fun a o q nt => let ⟨o1, h1, n1⟩ := e12.pr a o q nt; e4.pr a o1 h1 n1⟩
  rw [List.mem_singleton.mp z] at q
  exact x0.no q nt
/-- C(e, ..): a new instance, filled by its __init__, which does not raise here -/
theorem ev_makeR (h : EvA K tA env S ss S1) (hg : G (.c S1.length :: ss) (S1 ++ [.ins C []]) (.val .non) (S2 ++ [.ins C fs])) (hl : S2.length = S1.length) :
    Ev K (tMake C (SpR K G) [] E tA) env S (.d (.ins C fs)) S2 := fun B H as σ c g Q q =>
  h B H as σ c g _ fun vs B1 H1 c1 e1 r1 x dx hx hdx hne => by
    refine ⟨B1, as ++ [x], _, _, _, _, mk_start c1 hx hdx, mk_args c1 r1, hg, fun r er v B4 H4 c4 e4 r4 => ?_, fun _ _ z => nomatch z⟩
    cases er
    refine ⟨by cases r4; rfl, ?_⟩
    have hk : (as ++ [x])[as.length]? = some x := by simp
    have hs : (S2 ++ [Dat.ins C fs])[as.length]? = some (.ins C fs) := by
      rw [c1.len, ← hl]; simp
    obtain ⟨hb4, hc4⟩ := c4.cells as.length x _ hk hs
    obtain ⟨dx', ws, hw, rw'⟩ := hc4.ins
    have c5 : Ok K B4 H4 as S2 := by
      have := c4.upto as.length
      rw [List.take_left, show as.length = S2.length by rw [c1.len, hl], List.take_left] at this
      exact this
    have nd := c4.nd
    have hx4 : x ∉ as := fun hm => (List.nodup_append.mp nd).2.2 x hm x (by simp) rfl
    have x0 : Nn H x := e1.old hx
    have e5 : Evo B H as B4 H4 := mk_evo c1 e1 hx hdx e4
    refine q (.ref x) (upd B4 x (.ins C dx' ws)) H4 (c5.know hw hb4 hx4) ⟨e5.ex.trans (Evl.Ex.new hb4), e5.fr, fun a o q nt => by rw [upd_ne (by rintro rfl; exact x0.no q nt)]; exact e5.gr a o q nt, e5.tp, e5.pr⟩ (.ins upd_same (RepF.mono (Evl.Ex.new hb4) rw'))
/-- C(e, ..), its __init__ raises -/
theorem evx_make (h : EvA K tA env S ss S1) (hg : G (.c S1.length :: ss) (S1 ++ [.ins C0 []]) (.exc C p) (S1 ++ [d])) : EvX K E (tMake C0 (SpR K G) [] E tA) env S C p S1 := fun B H as σ c g w Q =>
  h B H as σ c g _ fun vs B1 H1 c1 e1 r1 x dx hx hdx hne => by
    refine ⟨B1, as ++ [x], _, _, .exc C p, _, mk_start c1 hx hdx, mk_args c1 r1, hg, fun r er => (nomatch er), fun C' p' z dd B4 H4 c4 e4 pa => ?_⟩
    cases z
    have c5 : Ok K B4 H4 as S1 := by
      have := c4.upto as.length
      rw [List.take_left, c1.len, List.take_left] at this
      exact this
    exact w dd B4 H4 c5 (mk_evo c1 e1 hx hdx e4) pa
end
section
variable {X : Cx} {cx : CXT} {n : Nat} {f : Addr} {fd : FuncData} {ps : List Str} {sp : Sp} {E : XK} {x : Str} {p pos : Pos}
/-- f() of a def that is run where nothing is being shown -/
theorem pe_callG0 (F : FnG X.prog X.w X.K X.mg X.base cx n f fd ps sp) (hc : Calm X.A) (hr : Room n X.A) (hg : Gl X x) (hm : X.mg x = some (.ref f)) (hk : PySem.W.keepIn X.K (.ref f) = true) (hb : L2.Binds X.K fd ps []) (hx : Passes cx X E)
    (hdb : (x == ("__debug__" : Str)) = false := by decide) : PE X (.Call (.Name x p) [] [] pos) (tCall sp [] E tNil) := ⟨fun pins s σ H Q I h => by
  have hs : sp [] H Q E := h
  refine wpAny_Call_Name_kw (ld_glob I hg hm (PySem.W.callWith_K0 I.kIn hk ?_) hdb)
  have hn : ([] : List Value).length = ps.length := F.many _ _ _ _ hs
  have hbt : BindsTo s fd ⟨[], []⟩ (ps.zip []) := by
    have z := hb s [] I.kIn (by rw [List.append_nil]; exact hn)
    rwa [List.append_nil] at z
  refine wpAny_call (codeAny_mono (F.does X.A X.stack s H ⟨[], []⟩ [] [] Q E hc hr I.env0 .nil hbt hs) fun r s2 hq => ?_)
  rcases r with err | fl
  · exact hx pins σ H s err s2 I hq
  · cases fl <;> first | exact I.after hq | exact hq.elim⟩
end
end RW

set_option Elab.async false
set_option linter.all false
set_option maxRecDepth 100000
set_option maxHeartbeats 4000000
namespace RwZ
open PySem PySem.Spec PyProof.Rows L2
@[reducible] def IsZ (h : Heap) (z TI TO : Addr) (f0 : Value) (f1 : Bool) : Prop := h.get? z = some { cls := .type "zip", data := .fields #[f0, .bool f1, .bool false, .ref TI, .ref TO] }
@[reducible] def IsT (h : Heap) (T : Addr) (vs : List Value) : Prop := h.get? T = some { cls := .type "tuple", data := .seq vs.toArray }
abbrev Col := Addr × Addr × Array Value
structure Sep (z TI TO : Addr) (cs : List Col) : Prop where
  nd : (cs.map (·.1)).Nodup
  it : ∀ c ∈ cs, c.1 ≠ z ∧ c.1 ≠ TI ∧ c.1 ≠ TO
  tu : ∀ c ∈ cs, c.2.1 ≠ z ∧ c.2.1 ≠ TO ∧ c.2.1 ∉ cs.map (·.1)
  zt : TI ≠ z ∧ TO ≠ z ∧ TI ≠ TO
def At (i : Nat) (h : Heap) (c : Col) : Prop := h.IsTupleIter c.1 c.2.1 i ∧ h.IsTuple c.2.1 c.2.2
section
variable {prog : Program} {w : World} {A : Around} {E : Value → Shared → Prop} {s : Shared} {z TI TO : Addr} {cs : List Col} {i : Nat}
theorem At.of {h h' : Heap} {c : Col} (x : At i h c) (e1 : h'.get? c.1 = h.get? c.1) (e2 : h'.get? c.2.1 = h.get? c.2.1) : At i h' c := by
  obtain ⟨⟨o, a, b⟩, ⟨o2, a2, b2⟩⟩ := x
  exact ⟨⟨o, by rw [e1]; exact a, b⟩, ⟨o2, by rw [e2]; exact a2, b2⟩⟩
theorem upd_T {T : Addr} {vs : List Value} {x : Value} {k : Nat} {Q : Unit → Shared → Prop} (h : IsT s.heap T vs) (hl : vs.length ≤ 1000) (q : ∀ h', IsT h' T (vs.set k x) → Heap.SameBut T s.heap h' → Q () { s with heap := h' }) :
    wpAny (model prog w) A (updateSeq T fun a => a.setIfInBounds k x) Q E s := by
  have hz : ∀ n, n ≤ 1000 → n ≤ sizeLine := fun n hn => by rw [sizeLine_eq]; omega
  refine wpAny_updateSeq h rfl (q _ ?_ ⟨?_, fun b hb => ?_⟩) (hz _ (by simpa using hl)) (Nat.le_succ_of_le (hz _ (by simpa using hl)))
  · show (s.heap.update T _).get? T = _
    rw [Heap.get?_update_self _ h]
    · simp [Obj.mapSeq]
    · rfl
  · exact Heap.size_update ..
  · exact Heap.get?_update_ne _ _ _ _ hb
theorem alive {a : Addr} {o : Obj} {Q : Option Obj → Shared → Prop} (h : s.heap.get? a = some o) (q : Q (some o) s) : wpAny (model prog w) A (loadIfAlive a) Q E s := by
  unfold loadIfAlive
  simp [wpAny]
  intro _ _
  rw [h]; exact q
theorem dead {a : Addr} {Q : Option Obj → Shared → Prop} (h : s.heap.get? a = none) (q : Q none s) : wpAny (model prog w) A (loadIfAlive a) Q E s := by
  unfold loadIfAlive
  simp [wpAny]
  intro _ _
  rw [h]; exact q
/-- the iterators one by one, into the owned tuple -/
theorem loop1 {f : Value × Nat → Option PySem.Fin × Unit → Sem (ForInStep (Option PySem.Fin × Unit))}
    (step : ∀ (a : Addr) (k : Nat) (s : Shared) (Q : ForInStep (Option PySem.Fin × Unit) → Shared → Prop) (vs : List Value), vs.length ≤ 1000 → wpAny (model prog w) A (Builtin.SmallTypes.nextOf (.ref a)) (fun x s' => IsT s'.heap TO vs ∧ ∀ h', IsT h' TO (vs.set k x) → Heap.SameBut TO s'.heap h' → Q (.yield (none, ())) { s' with heap := h' }) (fun e s' => wpAny (model prog w) A (setField (.ref z) 0 .none) (fun _ s'' => E e s'') E s') s → wpAny (model prog w) A (f (.ref a, k) (none, ())) Q E s)
    (S : Sep z TI TO cs) : ∀ (rest pre : List Col) (s : Shared) (os xs : List Value) (Q : Option PySem.Fin × Unit → Shared → Prop), cs = pre ++ rest → IsT s.heap TO (xs ++ os) → xs.length = pre.length → os.length = rest.length → cs.length ≤ 1000 → (∀ c ∈ pre, At (i + 1) s.heap c) → (∀ c ∈ rest, At i s.heap c) → (∀ c ∈ rest, i < c.2.2.size) →
      (∀ h' ys, IsT h' TO (xs ++ ys) → ys.length = rest.length → (∀ (k : Nat) (c : Col) (y : Value), rest[k]? = some c → ys[k]? = some y → c.2.2[i]? = some y) → (∀ c ∈ cs, At (i + 1) h' c) → h'.objs.size = s.heap.objs.size → (∀ b, b ≠ TO → b ∉ rest.map (·.1) → h'.get? b = s.heap.get? b) → Q (none, ()) { s with heap := h' }) →
      wpAny (model prog w) A (forIn ((rest.map fun c => Value.ref c.1).zipIdx pre.length) (none, ()) f) Q E s := by
  intro rest
  induction rest with
  | nil =>
    intro pre s os xs Q hcs hT hl ho h1000 h1 h2 hlt q
    have e : os = [] := by simpa using ho
    subst e
    simp only [List.map_nil, List.zipIdx_nil, List.forIn_nil]
    refine wpAny_pure (q s.heap [] hT rfl (fun k c y h => by simp at h) (fun c hc => h1 c (by rw [hcs, List.append_nil] at hc; exact hc)) rfl fun b _ _ => rfl)
  | cons c rest ih =>
    intro pre s os xs Q hcs hT hl ho h1000 h1 h2 hlt q
    obtain ⟨o0, os, rfl⟩ : ∃ o0 os', os = o0 :: os' := by cases os with | nil => simp at ho | cons a b => exact ⟨a, b, rfl⟩
    simp only [List.map_cons, List.zipIdx_cons, List.forIn_cons]
    have hc := h2 c List.mem_cons_self
    have hil := hlt c List.mem_cons_self
    have hmem : c ∈ cs := by rw [hcs]; simp
    obtain ⟨x, hx⟩ : ∃ x, c.2.2[i]? = some x := ⟨_, Array.getElem?_eq_getElem hil⟩
    refine wpAny_bind (step _ _ _ _ (xs ++ o0 :: os) (by rw [hcs] at h1000; simp at h1000 ho ⊢; omega) (wpAny_nextOf_tuple_item hc.1 hc.2 hx fun h1' hit sb => ?_))
    have nT : c.1 ≠ TO := (S.it c hmem).2.2
    refine ⟨by show h1'.get? TO = _; rw [sb.2 TO (Ne.symm nT)]; exact hT, fun h2' hT2 sb2 => ?_⟩
    have eT : (xs ++ o0 :: os).set pre.length x = (xs ++ [x]) ++ os := by rw [← hl]; simp
    rw [eT] at hT2
    have nd : ∀ d ∈ pre ++ rest, d.1 ≠ c.1 := fun d hd => by
      have := S.nd
      rw [hcs, List.map_append, List.map_cons] at this
      obtain ⟨_, n2, n3⟩ := List.nodup_append.mp this
      rcases List.mem_append.mp hd with h | h
      · exact fun e => n3 _ (List.mem_map.mpr ⟨d, h, rfl⟩) _ List.mem_cons_self e
      · exact fun e => (List.nodup_cons.mp n2).1 (by rw [← e]; exact List.mem_map.mpr ⟨d, h, rfl⟩)
    have keep : ∀ d ∈ cs, h2'.get? d.2.1 = s.heap.get? d.2.1 := fun d hd => by
      have hd2 := S.tu d hd
      rw [sb2.2 _ hd2.2.1, sb.2 _ fun e => hd2.2.2 (by rw [e]; exact List.mem_map.mpr ⟨c, hmem, rfl⟩)]
    have keepi : ∀ d ∈ pre ++ rest, h2'.get? d.1 = s.heap.get? d.1 := fun d hd => by
      have hd2 : d ∈ cs := by rw [hcs]; rcases List.mem_append.mp hd with h | h <;> simp [h]
      rw [sb2.2 _ (S.it d hd2).2.2, sb.2 _ (nd d hd)]
    have hcs' : cs = (pre ++ [c]) ++ rest := by rw [hcs]; simp
    have el : pre.length + 1 = (pre ++ [c]).length := by simp
    rw [el]
    refine ih (pre ++ [c]) { s with heap := h2' } os (xs ++ [x]) Q hcs' hT2 (by simp [hl]) (by simpa using ho) h1000 (fun d hd => ?_) (fun d hd => ?_) (fun d hd => hlt d (List.mem_cons_of_mem _ hd)) fun h3 ys a1 a2 a3 a4 a5 a6 => ?_
    · rcases List.mem_append.mp hd with h | h
      · exact (h1 d h).of (keepi d (List.mem_append.mpr (.inl h))) (keep d (by rw [hcs]; simp [h]))
      · rw [List.mem_singleton.mp h]
        refine ⟨?_, ?_⟩
        · obtain ⟨o, e1, e2⟩ := hit
          exact ⟨o, by rw [sb2.2 _ nT]; exact e1, e2⟩
        · obtain ⟨o, e1, e2⟩ := hc.2
          exact ⟨o, by rw [keep c hmem]; exact e1, e2⟩
    · exact (h2 d (List.mem_cons_of_mem _ hd)).of (keepi d (List.mem_append.mpr (.inr hd))) (keep d (by rw [hcs]; simp [hd]))
    · refine q h3 (x :: ys) (by rw [List.append_assoc] at a1; exact a1) (by simp [a2]) (fun k d y e1 e2 => ?_) a4 ?_ (fun b hb1 hb2 => ?_)
      · cases k with
        | zero => simp at e1 e2; subst e1 e2; exact hx
        | succ k => exact a3 k d y (by simpa using e1) (by simpa using e2)
      · rw [a5]; show h2'.objs.size = _; rw [sb2.1, sb.1]
      · have hb3 : b ∉ rest.map (·.1) := fun h => hb2 (by rw [List.map_cons]; exact List.mem_cons_of_mem _ h)
        rw [a6 b hb1 hb3]
        show h2'.get? b = _
        rw [sb2.2 _ hb1, sb.2 _ fun e => hb2 (by rw [e]; simp)]
/-- the iterators one by one, into a new list -/
theorem loop2 {f : Value → Option PySem.Fin × Array Value → Sem (ForInStep (Option PySem.Fin × Array Value))}
    (step : ∀ (a : Addr) (acc : Array Value) (s : Shared) (Q : ForInStep (Option PySem.Fin × Array Value) → Shared → Prop), wpAny (model prog w) A (Builtin.SmallTypes.nextOf (.ref a)) (fun x s' => Q (.yield (none, acc.push x)) s') E s → wpAny (model prog w) A (f (.ref a) (none, acc)) Q E s)
    (S : Sep z TI TO cs) : ∀ (rest pre : List Col) (s : Shared) (acc : Array Value) (Q : Option PySem.Fin × Array Value → Shared → Prop), cs = pre ++ rest → (∀ c ∈ pre, At (i + 1) s.heap c) → (∀ c ∈ rest, At i s.heap c) → (∀ c ∈ rest, i < c.2.2.size) →
      (∀ h' (ys : List Value), ys.length = rest.length → (∀ (k : Nat) (c : Col) (y : Value), rest[k]? = some c → ys[k]? = some y → c.2.2[i]? = some y) → (∀ c ∈ cs, At (i + 1) h' c) → h'.objs.size = s.heap.objs.size → (∀ b, b ∉ rest.map (·.1) → h'.get? b = s.heap.get? b) → Q (none, acc ++ ys.toArray) { s with heap := h' }) →
      wpAny (model prog w) A (forIn (rest.map fun c => Value.ref c.1) (none, acc) f) Q E s := by
  intro rest
  induction rest with
  | nil =>
    intro pre s acc Q hcs h1 h2 hlt q
    simp only [List.map_nil, List.forIn_nil]
    have := q s.heap [] rfl (fun k c y h => by simp at h) (fun c hc => h1 c (by rw [hcs, List.append_nil] at hc; exact hc)) rfl fun b _ => rfl
    refine wpAny_pure ?_
    simpa using this
  | cons c rest ih =>
    intro pre s acc Q hcs h1 h2 hlt q
    simp only [List.map_cons, List.forIn_cons]
    have hc := h2 c List.mem_cons_self
    have hil := hlt c List.mem_cons_self
    have hmem : c ∈ cs := by rw [hcs]; simp
    obtain ⟨x, hx⟩ : ∃ x, c.2.2[i]? = some x := ⟨_, Array.getElem?_eq_getElem hil⟩
    refine wpAny_bind (step _ _ _ _ (wpAny_nextOf_tuple_item hc.1 hc.2 hx fun h1' hit sb => ?_))
    have nd : ∀ d ∈ pre ++ rest, d.1 ≠ c.1 := fun d hd => by
      have := S.nd
      rw [hcs, List.map_append, List.map_cons] at this
      obtain ⟨_, n2, n3⟩ := List.nodup_append.mp this
      rcases List.mem_append.mp hd with h | h
      · exact fun e => n3 _ (List.mem_map.mpr ⟨d, h, rfl⟩) _ List.mem_cons_self e
      · exact fun e => (List.nodup_cons.mp n2).1 (by rw [← e]; exact List.mem_map.mpr ⟨d, h, rfl⟩)
    have keep : ∀ d ∈ cs, h1'.get? d.2.1 = s.heap.get? d.2.1 := fun d hd => by
      have hd2 := S.tu d hd
      rw [sb.2 _ fun e => hd2.2.2 (by rw [e]; exact List.mem_map.mpr ⟨c, hmem, rfl⟩)]
    have keepi : ∀ d ∈ pre ++ rest, h1'.get? d.1 = s.heap.get? d.1 := fun d hd => by
      rw [sb.2 _ (nd d hd)]
    have hcs' : cs = (pre ++ [c]) ++ rest := by rw [hcs]; simp
    refine ih (pre ++ [c]) { s with heap := h1' } (acc.push x) Q hcs' (fun d hd => ?_) (fun d hd => ?_) (fun d hd => hlt d (List.mem_cons_of_mem _ hd)) fun h3 ys a2 a3 a4 a5 a6 => ?_
    · rcases List.mem_append.mp hd with h | h
      · exact (h1 d h).of (keepi d (List.mem_append.mpr (.inl h))) (keep d (by rw [hcs]; simp [h]))
      · rw [List.mem_singleton.mp h]
        refine ⟨hit, ?_⟩
        obtain ⟨o, e1, e2⟩ := hc.2
        exact ⟨o, by rw [keep c hmem]; exact e1, e2⟩
    · exact (h2 d (List.mem_cons_of_mem _ hd)).of (keepi d (List.mem_append.mpr (.inr hd))) (keep d (by rw [hcs]; simp [hd]))
    · have := q h3 (x :: ys) (by simp [a2]) (fun k d y e1 e2 => ?_) a4 ?_ (fun b hb2 => ?_)
      · simpa using this
      · cases k with
        | zero => simp at e1 e2; subst e1 e2; exact hx
        | succ k => exact a3 k d y (by simpa using e1) (by simpa using e2)
      · rw [a5]; exact sb.1
      · have hb3 : b ∉ rest.map (·.1) := fun h => hb2 (by rw [List.map_cons]; exact List.mem_cons_of_mem _ h)
        rw [a6 b hb3]
        exact sb.2 _ fun e => hb2 (by rw [e]; simp)
def f0ok (h : Heap) (f0 : Value) : Prop := f0 = .none ∨ ∃ (a : Nat) (o : Obj), f0 = rawInt a ∧ h.get? a = some o
structure ZSt (z TI TO : Addr) (cs : List Col) (i : Nat) (h : Heap) : Prop where
  z : ∃ f0 f1, IsZ h z TI TO f0 f1 ∧ (f0 = .none ∨ ∃ a : Nat, f0 = rawInt a)
  ti : IsT h TI (cs.map fun c => .ref c.1)
  to : ∃ os, IsT h TO os ∧ os.length = cs.length
  at_ : ∀ c ∈ cs, At i h c
/-- a turn of zip(*..): a new tuple with one of each -/
theorem zn_item {Q : Value → Shared → Prop} (S : Sep z TI TO cs) (hne : cs ≠ []) (h1000 : cs.length ≤ 1000) (st : ZSt z TI TO cs i s.heap) (hlt : ∀ c ∈ cs, i < c.2.2.size)
    (q : ∀ h' (ys : List Value), IsT h' s.heap.objs.size ys → ys.length = cs.length → (∀ (k : Nat) (c : Col) (y : Value), cs[k]? = some c → ys[k]? = some y → c.2.2[i]? = some y) → ZSt z TI TO cs (i + 1) h' → h'.objs.size = s.heap.objs.size + 1 → (∀ b o, b ≠ z → b ≠ TO → b ∉ cs.map (·.1) → s.heap.get? b = some o → h'.get? b = some o) → Q (.ref s.heap.objs.size) { s with heap := h' }) :
    wpAny (model prog w) A (Builtin.«zip.__next__» { pos := [.ref z] }) (fun fin s' => ∃ v, fin = .done (.ret v) ∧ Q v s') E s := by
  obtain ⟨⟨f0, f1, hz, hf⟩, hTI, ⟨os, hTO, hol⟩, hat⟩ := st
  have hzl := Heap.lt_size hz
  unfold Builtin.«zip.__next__»
  simp only [slotArgs]
  refine wpAny_bind (wpAny_pure ?_)
  refine wpAny_bind (wpAny_field hz rfl rfl ?_)
  refine wpAny_bind (wpAny_field hz rfl rfl ?_)
  refine wpAny_bind (wpAny_seqItems hTI rfl ?_)
  dsimp only
  have he : ((cs.map fun c => Value.ref c.1).toArray).isEmpty = false := by cases cs with | nil => exact absurd rfl hne | cons a r => rfl
  rw [he]
  simp only [Bool.false_eq_true, if_false]
  unfold Builtin.SmallTypes.ownedTupleIsFree
  refine wpAny_bind (wpAny_bind (wpAny_field hz rfl rfl ?_))
  by_cases hfree : f0 = .none ∨ ∃ a : Nat, f0 = rawInt a ∧ s.heap.get? a = none
  · have tr : ∀ {Q' : Bool → Shared → Prop}, Q' true s → wpAny (model prog w) A (match #[f0, Value.bool f1, Value.bool false, Value.ref TI, Value.ref TO][0] with
        | Value.none => pure true
        | Value.int a tok => do
          let __do_lift ← loadIfAlive a.toNat
          if __do_lift.isNone = true then pure true
            else do
              let __do_lift ← field (Value.ref z) 1
              have __do_jp : Unit → Sem Bool := fun __r => pure false
              if (__do_lift != Value.bool true) = true then do
                  let __r ← setField (Value.ref z) 1 (Value.bool true)
                  __do_jp __r
                else __do_jp ()
        | x => pure false) Q' E s := fun {Q'} q' => by
      rcases hfree with rfl | ⟨a, rfl, ha⟩
      · exact wpAny_pure q'
      · refine wpAny_bind (dead ha ?_)
        exact wpAny_pure q'
    refine tr ?_
    simp only [if_true]
    refine wpAny_bind (wpAny_rule ?_)
    refine wpAny_bind (wpAny_field hz rfl rfl ?_)
    refine wpAny_bind (wpAny_setField_rec hz (by simp) fun h1 hz1 sb1 => ?_)
    have hat1 : ∀ c ∈ cs, At i h1 c := fun c hc => (hat c hc).of (sb1.2 _ (S.it c hc).1) (sb1.2 _ (S.tu c hc).1)
    refine wpAny_bind (loop1 (z := z) (TI := TI) (TO := TO) (cs := cs) (i := i) (fun a k s' Q' vs hvl hw => ?_) S cs [] { s with heap := h1 } os [] _ rfl (by show h1.get? TO = _; rw [sb1.2 _ S.zt.2.1]; exact hTO) rfl hol h1000 (fun c hc => by simp at hc) hat1 hlt fun h2 ys a1 a2 a3 a4 a5 a6 => ?_)
    · have e0 : (#[f0, Value.bool f1, Value.bool false, Value.ref TI, Value.ref TO][2] == Value.bool true) = false := by rfl
      rw [e0]
      try simp only [Bool.false_eq_true, if_false]
      refine wpAny_bind (wpAny_onRaise (wpAny_bind (wpAny_mono hw (fun x s'' hx => wpAny_pure ?_) fun e s'' he => he)))
      refine wpAny_bind (wpAny_seqItems hx.1 rfl ?_)
      refine wpAny_bind (upd_T hx.1 hvl fun h' hT' sb' => ?_)
      refine wpAny_bind (wpAny_letGo ?_)
      exact wpAny_pure (hx.2 h' hT' sb')
    · have hz2 : IsZ h2 z TI TO .ellipsis f1 := by
        show h2.get? z = _
        rw [a6 z (Ne.symm S.zt.2.1) (fun h => by obtain ⟨c, hc, e⟩ := List.mem_map.mp h; exact (S.it c hc).1 e)]
        exact hz1
      rw [List.nil_append] at a1
      refine wpAny_bind (wpAny_seqItems a1 rfl ?_)
      have hz1000 : ys.toArray.toList.length ≤ sizeLine := by
        rw [sizeLine_eq]; simp; omega
      refine wpAny_bind (wpAny_newTuple ?_ hz1000)
      have hs2 : h2.objs.size = s.heap.objs.size := by rw [a5]; exact sb1.1
      have fin : ∀ h3, h3.get? z = some { cls := .type "zip", data := .fields #[rawInt s.heap.objs.size, .bool false, .bool false, .ref TI, .ref TO] } → h3.get? s.heap.objs.size = some { cls := .type "tuple", data := .seq ys.toArray } → h3.objs.size = s.heap.objs.size + 1 → (∀ b o, b ≠ z → h2.get? b = some o → h3.get? b = some o) → Q (.ref s.heap.objs.size) { s with heap := h3 } := fun h3 g1 g2 g3 g4 => by
        refine q h3 ys g2 a2 a3 ⟨⟨_, _, g1, .inr ⟨_, rfl⟩⟩, ?_, ⟨ys, g4 TO _ S.zt.2.1 a1, a2⟩, fun c hc => ?_⟩ g3 fun b o hb1 hb2 hb3 hb => g4 b o hb1 ?_
        · refine g4 TI _ S.zt.1 ?_
          rw [a6 TI S.zt.2.2 (fun h => by obtain ⟨c, hc, e⟩ := List.mem_map.mp h; exact (S.it c hc).2.1 e)]
          show h1.get? TI = _
          rw [sb1.2 _ S.zt.1]; exact hTI
        · obtain ⟨⟨o1, e1, e2⟩, ⟨o2, e3, e4⟩⟩ := a4 c hc
          exact ⟨⟨o1, g4 _ _ (S.it c hc).1 e1, e2⟩, ⟨o2, g4 _ _ (S.tu c hc).1 e3, e4⟩⟩
        · rw [a6 b hb2 hb3]
          show h1.get? b = _
          rw [sb1.2 _ hb1]; exact hb
      unfold Builtin.SmallTypes.ownedTupleHandOut
      have hzp : (h2.push { cls := Value.type "tuple", data := Data.seq ys.toArray }).get? z = some { cls := .type "zip", data := .fields #[.ellipsis, .bool f1, .bool false, .ref TI, .ref TO] } := Heap.get?_push_of_some _ hz2
      refine wpAny_bind (wpAny_bind (wpAny_setField_rec hzp (by simp) fun h3 hz3 sb3 => ?_))
      refine wpAny_setField_rec hz3 (by simp) fun h4 hz4 sb4 => ?_
      refine wpAny_pure ⟨_, rfl, ?_⟩
      show Q (Value.ref h2.objs.size) _
      rw [hs2]
      refine fin h4 (by rw [hz4]; show some ({ cls := Value.type "zip", data := Data.fields #[rawInt h2.objs.size, .bool false, .bool false, .ref TI, .ref TO] } : Obj) = _; rw [hs2]) ?_ ?_ fun b o hb hg => ?_
      · rw [sb4.2 _ (Nat.ne_of_gt hzl), sb3.2 _ (Nat.ne_of_gt hzl), ← hs2]
        exact Heap.get?_push_size _ rfl
      · rw [sb4.1, sb3.1]; show (h2.push _).objs.size = _; rw [Heap.size_push, hs2]
      · rw [sb4.2 _ hb, sb3.2 _ hb]
        exact Heap.get?_push_of_some _ hg
  obtain ⟨a, o, hf0, ha⟩ : ∃ (a : Nat) (o : Obj), f0 = rawInt a ∧ s.heap.get? a = some o := by
    rcases hf with h | ⟨a, h⟩
    · exact absurd (.inl h) hfree
    · cases e : s.heap.get? a with
      | none => exact absurd (.inr ⟨a, h, e⟩) hfree
      | some o => exact ⟨a, o, h, e⟩
  · subst hf0
    refine wpAny_bind (alive ha ?_)
    simp only [Option.isNone, Bool.false_eq_true, if_false]
    refine wpAny_bind (wpAny_field hz rfl rfl ?_)
    have e0 : (#[rawInt ↑a, Value.bool f1, Value.bool false, Value.ref TI, Value.ref TO][2] == Value.bool true) = false := by rfl
    rw [e0]
    have go : ∀ h1, IsZ h1 z TI TO (rawInt a) true → Heap.SameBut z s.heap h1 → ∀ (h2 : Heap) (ys : List Value), ys.length = cs.length → (∀ (k : Nat) (c : Col) (y : Value), cs[k]? = some c → ys[k]? = some y → c.2.2[i]? = some y) → (∀ c ∈ cs, At (i + 1) h2 c) → h2.objs.size = h1.objs.size → (∀ b, b ∉ cs.map (·.1) → h2.get? b = h1.get? b) → Q (.ref h2.objs.size) { s with heap := h2.push { cls := .type "tuple", data := .seq ys.toArray } } := fun h1 hz1 sb1 h2 ys a2 a3 a4 a5 a6 => by
      have hs2 : h2.objs.size = s.heap.objs.size := by rw [a5]; exact sb1.1
      rw [hs2]
      have up : ∀ {b o}, h2.get? b = some o → (h2.push { cls := .type "tuple", data := .seq ys.toArray }).get? b = some o := fun e => Heap.get?_push_of_some _ e
      have nz : z ∉ cs.map (·.1) := fun h => by obtain ⟨c, hc, e⟩ := List.mem_map.mp h; exact (S.it c hc).1 e
      refine q _ ys (by rw [← hs2]; exact Heap.get?_push_size _ rfl) a2 a3 ⟨⟨_, _, up (by rw [a6 z nz]; exact hz1), .inr ⟨_, rfl⟩⟩, up ?_, ⟨os, up ?_, hol⟩, fun c hc => ?_⟩ (by rw [Heap.size_push, hs2]) fun b o hb1 hb2 hb3 hb => up ?_
      · rw [a6 TI (fun h => by obtain ⟨c, hc, e⟩ := List.mem_map.mp h; exact (S.it c hc).2.1 e), sb1.2 _ S.zt.1]; exact hTI
      · rw [a6 TO (fun h => by obtain ⟨c, hc, e⟩ := List.mem_map.mp h; exact (S.it c hc).2.2 e), sb1.2 _ S.zt.2.1]; exact hTO
      · obtain ⟨⟨o1, e1, e2⟩, ⟨o2, e3, e4⟩⟩ := a4 c hc
        exact ⟨⟨o1, up e1, e2⟩, ⟨o2, up e3, e4⟩⟩
      · rw [a6 b hb3, sb1.2 _ hb1]; exact hb
    have hz1000 : ∀ ys : List Value, ys.length = cs.length → (#[] ++ ys.toArray).toList.length ≤ sizeLine := fun ys h => by
      rw [sizeLine_eq]; simp; omega
    have hat1 : ∀ h1, Heap.SameBut z s.heap h1 → ∀ c ∈ cs, At i h1 c := fun h1 sb1 c hc => (hat c hc).of (sb1.2 _ (S.it c hc).1) (sb1.2 _ (S.tu c hc).1)
    have same : Heap.SameBut z s.heap s.heap := ⟨rfl, fun _ _ => rfl⟩
    cases f1 with
    | false =>
      refine wpAny_ite_true (by rfl) (wpAny_bind (wpAny_setField_rec hz (by simp) fun h1 hz1 sb1 => ?_))
      refine wpAny_pure ?_
      simp only [Bool.false_eq_true, if_false]
      try simp only [Bool.false_eq_true, if_false, List.forIn_toArray]
      refine wpAny_bind (loop2 (z := z) (TI := TI) (TO := TO) (cs := cs) (i := i) (fun b acc s' Q' hw => ?_) S cs [] { s with heap := h1 } #[] _ rfl (fun c hc => by simp at hc) (hat1 h1 sb1) hlt fun h2 ys a2 a3 a4 a5 a6 => ?_)
      · refine wpAny_bind (wpAny_holding (wpAny_bind (wpAny_mono hw (fun x s'' hx => wpAny_pure ?_) fun e s'' he => he)))
        exact wpAny_pure hx
      · refine wpAny_bind (wpAny_newTuple ?_ (hz1000 ys a2))
        refine wpAny_pure ⟨_, rfl, ?_⟩
        have := go h1 hz1 sb1 h2 ys a2 a3 a4 a5 a6
        simpa using this
    | true =>
      refine wpAny_ite_false (by rfl) ?_
      refine wpAny_pure ?_
      simp only [Bool.false_eq_true, if_false]
      try simp only [Bool.false_eq_true, if_false, List.forIn_toArray]
      refine wpAny_bind (loop2 (z := z) (TI := TI) (TO := TO) (cs := cs) (i := i) (fun b acc s' Q' hw => ?_) S cs [] s #[] _ rfl (fun c hc => by simp at hc) (hat1 _ same) hlt fun h2 ys a2 a3 a4 a5 a6 => ?_)
      · refine wpAny_bind (wpAny_holding (wpAny_bind (wpAny_mono hw (fun x s'' hx => wpAny_pure ?_) fun e s'' he => he)))
        exact wpAny_pure hx
      · refine wpAny_bind (wpAny_newTuple ?_ (hz1000 ys a2))
        refine wpAny_pure ⟨_, rfl, ?_⟩
        have := go s.heap hz same h2 ys a2 a3 a4 a5 a6
        simpa using this
/-- the first iterator is at its end -/
theorem zn_end {Q : PySem.Fin → Shared → Prop} (hh : A.handled = none) (S : Sep z TI TO cs) (hne : cs ≠ []) (st : ZSt z TI TO cs i s.heap) (hend : ∀ c ∈ cs, c.2.2.size = i)
    (q : ∀ h' e, (∀ b o, b ≠ z → b ∉ cs.map (·.1) → s.heap.get? b = some o → h'.get? b = some o) → (∃ o, h'.get? e = some o ∧ o.cls = .type "StopIteration") → E (.ref e) { s with heap := h' }) :
    wpAny (model prog w) A (Builtin.«zip.__next__» { pos := [.ref z] }) Q E s := by
  obtain ⟨⟨f0, f1, hz, hf⟩, hTI, ⟨os, hTO, hol⟩, hat⟩ := st
  have hzl := Heap.lt_size hz
  obtain ⟨c, cs', hcs⟩ : ∃ c cs', cs = c :: cs' := by cases cs with | nil => exact absurd rfl hne | cons a r => exact ⟨a, r, rfl⟩
  have hmem : c ∈ cs := by rw [hcs]; simp
  have hc := hat c hmem
  have hno : c.2.2[i]? = none := by
    rw [← hend c hmem]; exact Array.getElem?_size
  unfold Builtin.«zip.__next__»
  simp only [slotArgs]
  refine wpAny_bind (wpAny_pure ?_)
  refine wpAny_bind (wpAny_field hz rfl rfl ?_)
  refine wpAny_bind (wpAny_field hz rfl rfl ?_)
  refine wpAny_bind (wpAny_seqItems hTI rfl ?_)
  dsimp only
  have he : ((cs.map fun c => Value.ref c.1).toArray).isEmpty = false := by rw [hcs]; rfl
  rw [he]
  simp only [Bool.false_eq_true, if_false]
  unfold Builtin.SmallTypes.ownedTupleIsFree
  refine wpAny_bind (wpAny_bind (wpAny_field hz rfl rfl ?_))
  have hcz := (S.it c hmem).1
  have huz := (S.tu c hmem).1
  have huc : c.2.1 ≠ c.1 := fun e => (S.tu c hmem).2.2 (by rw [e]; exact List.mem_map.mpr ⟨c, hmem, rfl⟩)
  by_cases hfree : f0 = .none ∨ ∃ a : Nat, f0 = rawInt a ∧ s.heap.get? a = none
  · have tr : ∀ {Q' : Bool → Shared → Prop}, Q' true s → wpAny (model prog w) A (match #[f0, Value.bool f1, Value.bool false, Value.ref TI, Value.ref TO][0] with
        | Value.none => pure true
        | Value.int a tok => do
          let __do_lift ← loadIfAlive a.toNat
          if __do_lift.isNone = true then pure true
            else do
              let __do_lift ← field (Value.ref z) 1
              have __do_jp : Unit → Sem Bool := fun __r => pure false
              if (__do_lift != Value.bool true) = true then do
                  let __r ← setField (Value.ref z) 1 (Value.bool true)
                  __do_jp __r
                else __do_jp ()
        | x => pure false) Q' E s := fun {Q'} q' => by
      rcases hfree with rfl | ⟨a, rfl, ha⟩
      · exact wpAny_pure q'
      · refine wpAny_bind (dead ha ?_)
        exact wpAny_pure q'
    refine tr ?_
    simp only [if_true]
    refine wpAny_bind (wpAny_rule ?_)
    refine wpAny_bind (wpAny_field hz rfl rfl ?_)
    refine wpAny_bind (wpAny_setField_rec hz (by simp) fun h1 hz1 sb1 => ?_)
    have e0 : (#[f0, Value.bool f1, Value.bool false, Value.ref TI, Value.ref TO][2] == Value.bool true) = false := by rfl
    rw [e0]
    try simp only [Bool.false_eq_true, if_false]
    rw [hcs]
    simp only [List.map_cons, List.zipIdx_cons, List.forIn_cons]
    have hc1 : At i h1 c := hc.of (sb1.2 _ hcz) (sb1.2 _ huz)
    refine wpAny_bind (wpAny_bind (wpAny_bind (wpAny_onRaise (wpAny_bind (wpAny_nextOf_tuple_end hh hc1.1 hc1.2 hno fun h2 e xb he => ?_)))))
    have hz2 := xb z _ (Ne.symm hcz) hz1
    refine wpAny_setField_rec hz2 (by simp) fun h3 hz3 sb3 => ?_
    refine q h3 e (fun b o hb1 hb2 hb => ?_) ?_
    · rw [sb3.2 _ hb1]
      refine xb b o (fun e => hb2 (by rw [e]; exact List.mem_map.mpr ⟨c, hmem, rfl⟩)) ?_
      rw [sb1.2 _ hb1]; exact hb
    · obtain ⟨o, e1, e2⟩ := he
      by_cases hez : e = z
      · subst hez
        rw [hz2] at e1
        cases e1
        simp at e2
      · exact ⟨o, by rw [sb3.2 _ hez]; exact e1, e2⟩
  obtain ⟨a, o, hf0, ha⟩ : ∃ (a : Nat) (o : Obj), f0 = rawInt a ∧ s.heap.get? a = some o := by
    rcases hf with h | ⟨a, h⟩
    · exact absurd (.inl h) hfree
    · cases e : s.heap.get? a with
      | none => exact absurd (.inr ⟨a, h, e⟩) hfree
      | some o => exact ⟨a, o, h, e⟩
  · subst hf0
    refine wpAny_bind (alive ha ?_)
    simp only [Option.isNone, Bool.false_eq_true, if_false]
    refine wpAny_bind (wpAny_field hz rfl rfl ?_)
    have e0 : (#[rawInt ↑a, Value.bool f1, Value.bool false, Value.ref TI, Value.ref TO][2] == Value.bool true) = false := by rfl
    rw [e0]
    try simp only [Bool.false_eq_true, if_false, List.forIn_toArray]
    rw [hcs]
    simp only [List.map_cons, List.forIn_cons]
    have go : ∀ h1, Heap.SameBut z s.heap h1 → ∀ {Q2 : Value → Shared → Prop}, wpAny (model prog w) A (Builtin.SmallTypes.nextOf (.ref c.1)) Q2 E { s with heap := h1 } := fun h1 sb1 Q2 => by
      have hc1 : At i h1 c := hc.of (sb1.2 _ hcz) (sb1.2 _ huz)
      refine wpAny_nextOf_tuple_end hh hc1.1 hc1.2 hno fun h2 e xb he => ?_
      refine q h2 e (fun b o hb1 hb2 hb => ?_) he
      refine xb b o (fun e => hb2 (by rw [e]; exact List.mem_map.mpr ⟨c, hmem, rfl⟩)) ?_
      rw [sb1.2 _ hb1]; exact hb
    cases f1 with
    | false =>
      refine wpAny_ite_true (by rfl) (wpAny_bind (wpAny_setField_rec hz (by simp) fun h1 hz1 sb1 => ?_))
      refine wpAny_pure ?_
      simp only [Bool.false_eq_true, if_false]
      exact wpAny_bind (wpAny_bind (wpAny_bind (wpAny_holding (wpAny_bind (go h1 sb1)))))
    | true =>
      refine wpAny_ite_false (by rfl) ?_
      refine wpAny_pure ?_
      simp only [Bool.false_eq_true, if_false]
      exact wpAny_bind (wpAny_bind (wpAny_bind (wpAny_holding (wpAny_bind (go s.heap ⟨rfl, fun _ _ => rfl⟩)))))
/-! ### zip(*rows), made -/
theorem tc_zip (args : List Value) : checkTypeCall "zip" { pos := args } = pure () := rfl
theorem nc_zip : ∀ (args : List Value), args.length ≤ 12 → checkBuiltinCall "zip.__new__" { pos := Value.type "zip" :: args } = pure ()
  | [], _ => by with_unfolding_all rfl
  | [_], _ => by with_unfolding_all rfl
  | [_, _], _ => by with_unfolding_all rfl
  | [_, _, _], _ => by with_unfolding_all rfl
  | [_, _, _, _], _ => by with_unfolding_all rfl
  | [_, _, _, _, _], _ => by with_unfolding_all rfl
  | [_, _, _, _, _, _], _ => by with_unfolding_all rfl
  | [_, _, _, _, _, _, _], _ => by with_unfolding_all rfl
  | [_, _, _, _, _, _, _, _], _ => by with_unfolding_all rfl
  | [_, _, _, _, _, _, _, _, _], _ => by with_unfolding_all rfl
  | [_, _, _, _, _, _, _, _, _, _], _ => by with_unfolding_all rfl
  | [_, _, _, _, _, _, _, _, _, _, _], _ => by with_unfolding_all rfl
  | [_, _, _, _, _, _, _, _, _, _, _, _], _ => by with_unfolding_all rfl
  | _ :: _ :: _ :: _ :: _ :: _ :: _ :: _ :: _ :: _ :: _ :: _ :: _ :: _, h => by simp at h
theorem oi_any (obj : Value) (args : List Value) : argsOk "object.__init__" { pos := obj :: args } := rfl
/-- the iterators of the columns -/
def colsOf (n0 : Nat) : List (Addr × Array Value) → List Col
  | [] => []
  | t :: ts => (n0, t.1, t.2) :: colsOf (n0 + 1) ts
theorem colsOf_len : ∀ (ts : List (Addr × Array Value)) (n0 : Nat), (colsOf n0 ts).length = ts.length
  | [], _ => rfl
  | t :: ts, n0 => by rw [colsOf, List.length_cons, List.length_cons, colsOf_len ts]
theorem colsOf_mem : ∀ {ts : List (Addr × Array Value)} {n0 : Nat} {c : Col}, c ∈ colsOf n0 ts → n0 ≤ c.1 ∧ c.1 < n0 + ts.length ∧ (c.2.1, c.2.2) ∈ ts
  | [], _, _, h => by simp [colsOf] at h
  | t :: ts, n0, c, h => by
    rw [colsOf] at h
    rcases List.mem_cons.mp h with rfl | h
    · exact ⟨Nat.le_refl _, by simp, List.mem_cons_self⟩
    · obtain ⟨h1, h2, h3⟩ := colsOf_mem h
      exact ⟨Nat.le_of_succ_le h1, Nat.lt_of_lt_of_eq h2 (by rw [List.length_cons]; omega), List.mem_cons_of_mem _ h3⟩
theorem colsOf_nd : ∀ (ts : List (Addr × Array Value)) (n0 : Nat), ((colsOf n0 ts).map (·.1)).Nodup
  | [], _ => by simp [colsOf]
  | t :: ts, n0 => by
    rw [colsOf, List.map_cons]
    refine List.nodup_cons.mpr ⟨fun h => ?_, colsOf_nd ts (n0 + 1)⟩
    obtain ⟨c, hc, e⟩ := List.mem_map.mp h
    have := (colsOf_mem hc).1
    have e : c.1 = n0 := e
    rw [e] at this
    exact absurd this (Nat.not_succ_le_self _)
theorem colsOf_snd : ∀ (ts : List (Addr × Array Value)) (n0 : Nat), (colsOf n0 ts).map (·.2.1) = ts.map (·.1)
  | [], _ => rfl
  | t :: ts, n0 => by rw [colsOf, List.map_cons, List.map_cons, colsOf_snd ts]
/-- an iterator for each of the tuples -/
theorem iter_all : ∀ (ts : List (Addr × Array Value)) (s : Shared) (acc : Array Value) (Q : Array Value → Shared → Prop), (∀ t ∈ ts, s.heap.IsTuple t.1 t.2) →
    (∀ h', (∀ c ∈ colsOf s.heap.objs.size ts, At 0 h' c) → h'.objs.size = s.heap.objs.size + ts.length → (∀ b o, s.heap.get? b = some o → h'.get? b = some o) → Q (acc ++ ((colsOf s.heap.objs.size ts).map fun c => Value.ref c.1).toArray) { s with heap := h' }) →
    wpAny (model prog w) A (forIn (ts.map fun t => Value.ref t.1) acc fun x its => do
        let d ← holding its.toList (pyIter x)
        pure (ForInStep.yield (its.push d))) Q E s
  | [], s, acc, Q, _, q => by
    simp only [List.map_nil, List.forIn_nil]
    refine wpAny_pure ?_
    have := q s.heap (fun c hc => by simp [colsOf] at hc) rfl fun _ _ h => h
    simpa [colsOf] using this
  | t :: ts, s, acc, Q, ht, q => by
    simp only [List.map_cons, List.forIn_cons]
    have h0 := ht t List.mem_cons_self
    refine wpAny_bind (wpAny_bind (wpAny_holding ((begins_tuple t.1 t.2).iter prog w A E s _ h0 ?_)))
    refine wpAny_pure ?_
    have up : ∀ {b o}, s.heap.get? b = some o → (s.heap.push { cls := .type "tuple_iterator", data := .fields #[.ref t.1, .int 0 0] }).get? b = some o := fun e => Heap.get?_push_of_some _ e
    have hsz : (s.heap.push { cls := .type "tuple_iterator", data := .fields #[.ref t.1, .int 0 0] }).objs.size = s.heap.objs.size + 1 := Heap.size_push ..
    refine iter_all ts { s with heap := s.heap.push { cls := .type "tuple_iterator", data := .fields #[.ref t.1, .int 0 0] } } (acc.push _) Q (fun u hu => ?_) fun h' a1 a2 a3 => ?_
    · obtain ⟨o, e1, e2⟩ := ht u (List.mem_cons_of_mem _ hu)
      exact ⟨o, up e1, e2⟩
    · rw [hsz] at a1 a2
      have := q h' (fun c hc => ?_) (by rw [a2, List.length_cons]; omega) fun b o hb => a3 b o (up hb)
      · rw [colsOf] at this
        rw [hsz]
        simpa using this
      · rw [colsOf] at hc
        rcases List.mem_cons.mp hc with rfl | hc
        · refine ⟨⟨_, a3 _ _ (Heap.get?_push_size _ rfl), rfl, rfl⟩, ?_⟩
          obtain ⟨o, e1, e2⟩ := h0
          exact ⟨o, a3 _ _ (up e1), e2⟩
        · exact a1 c hc
theorem zip_new {ts : List (Addr × Array Value)} : Meets (Builtin.«zip.__new__» ⟨.type "zip" :: ts.map (fun t => Value.ref t.1), []⟩) (fun _ R s => (∀ t ∈ ts, s.heap.IsTuple t.1 t.2) ∧ ts.length ≤ 12 ∧
    ∀ h', ZSt (s.heap.objs.size + ts.length + 2) (s.heap.objs.size + ts.length) (s.heap.objs.size + ts.length + 1) (colsOf s.heap.objs.size ts) 0 h' → IsZ h' (s.heap.objs.size + ts.length + 2) (s.heap.objs.size + ts.length) (s.heap.objs.size + ts.length + 1) .none false → h'.objs.size = s.heap.objs.size + ts.length + 3 → (∀ b o, s.heap.get? b = some o → h'.get? b = some o) → R (.ok (.ret (.ref (s.heap.objs.size + ts.length + 2)))) { s with heap := h' }) :=
  .of_wp fun prog w A R s h => by
    obtain ⟨ht, hl, h⟩ := h
    unfold Builtin.«zip.__new__»
    unfold Builtin.SmallTypes.newClass
    simp only [List.length_nil]
    have hsub : isSubtype (Value.type "zip") (Value.type "zip") = pure true := by rfl
    have hty : isType (Value.type "zip") = pure true := by rfl
    rw [hty, hsub]
    refine wpAny_bind (wpAny_bind (wpAny_pure ?_))
    refine wpAny_ite_false (by rfl) (wpAny_bind (wpAny_pure ?_))
    refine wpAny_ite_false (by rfl) (wpAny_pure ?_)
    refine wpAny_ite_false (by decide) ?_
    unfold Builtin.SmallTypes.iterAll
    refine wpAny_bind (wpAny_bind (iter_all ts s #[] _ ht fun h1 a1 a2 a3 => ?_))
    refine wpAny_pure ?_
    have hlen := colsOf_len ts s.heap.objs.size
    have hz : ∀ n, n ≤ 12 → n ≤ sizeLine := fun n hn => by rw [sizeLine_eq]; omega
    have e1 : (#[] ++ ((colsOf s.heap.objs.size ts).map fun (c : Col) => Value.ref c.1).toArray).toList = (colsOf s.heap.objs.size ts).map fun (c : Col) => Value.ref c.1 := by rw [Array.empty_append]
    rw [e1]
    refine wpAny_bind (wpAny_newTuple ?_ (hz _ (by simp [hlen, hl])))
    refine wpAny_bind (wpAny_newTuple ?_ (hz _ (by simp [hlen, hl])))
    unfold Builtin.SmallTypes.newRecord
    refine wpAny_bind ?_
    dsimp only
    have sz1 : (h1.push { cls := .type "tuple", data := .seq ((colsOf s.heap.objs.size ts).map fun (c : Col) => Value.ref c.1).toArray }).objs.size = s.heap.objs.size + ts.length + 1 := by rw [Heap.size_push, a2]
    rw [a2, sz1]
    unfold newObj
    wp_walk
    have sz2 : ∀ o : Obj, ((h1.push { cls := .type "tuple", data := .seq ((colsOf s.heap.objs.size ts).map fun (c : Col) => Value.ref c.1).toArray }).push o).objs.size = s.heap.objs.size + ts.length + 2 := fun o => by rw [Heap.size_push, sz1]
    refine ⟨_, rfl, ?_⟩
    rw [sz2]
    have up : ∀ {b o o1 o2 o3}, h1.get? b = some o → (((h1.push o1).push o2).push o3).get? b = some o := fun e => Heap.get?_push_of_some _ (Heap.get?_push_of_some _ (Heap.get?_push_of_some _ e))
    have hz0 : IsZ (((h1.push { cls := .type "tuple", data := .seq ((colsOf s.heap.objs.size ts).map fun (c : Col) => Value.ref c.1).toArray }).push { cls := .type "tuple", data := .seq (((colsOf s.heap.objs.size ts).map fun (c : Col) => Value.ref c.1).map fun _ => Value.none).toArray }).push { cls := .type "zip", data := .fields (Builtin.SmallTypes.ownedTupleFields ++ [Value.bool false, Value.ref (s.heap.objs.size + ts.length), Value.ref (s.heap.objs.size + ts.length + 1)]).toArray }) (s.heap.objs.size + ts.length + 2) (s.heap.objs.size + ts.length) (s.heap.objs.size + ts.length + 1) .none false := by
      have := Heap.get?_push_size ((h1.push { cls := .type "tuple", data := .seq ((colsOf s.heap.objs.size ts).map fun (c : Col) => Value.ref c.1).toArray }).push { cls := .type "tuple", data := .seq (((colsOf s.heap.objs.size ts).map fun (c : Col) => Value.ref c.1).map fun _ => Value.none).toArray }) (o := { cls := .type "zip", data := .fields (Builtin.SmallTypes.ownedTupleFields ++ [Value.bool false, Value.ref (s.heap.objs.size + ts.length), Value.ref (s.heap.objs.size + ts.length + 1)]).toArray }) rfl
      rw [sz2] at this
      exact this
    refine h _ ⟨⟨.none, false, hz0, .inl rfl⟩, ?_, ⟨(colsOf s.heap.objs.size ts).map fun _ => Value.none, ?_, by rw [List.length_map]⟩, fun c hc => ?_⟩ hz0 (by rw [Heap.size_push, sz2]) fun b o e => up (a3 b o e)
    · refine Heap.get?_push_of_some _ (Heap.get?_push_of_some _ ?_)
      have := Heap.get?_push_size h1 (o := { cls := .type "tuple", data := .seq ((colsOf s.heap.objs.size ts).map fun (c : Col) => Value.ref c.1).toArray }) rfl
      rw [a2] at this
      exact this
    · refine Heap.get?_push_of_some _ ?_
      have := Heap.get?_push_size (h1.push { cls := .type "tuple", data := .seq ((colsOf s.heap.objs.size ts).map fun (c : Col) => Value.ref c.1).toArray }) (o := { cls := .type "tuple", data := .seq (((colsOf s.heap.objs.size ts).map fun (c : Col) => Value.ref c.1).map fun _ => Value.none).toArray }) rfl
      rw [sz1, List.map_map] at this
      rw [List.map_map]
      exact this
    · obtain ⟨⟨o1, e1, e2⟩, ⟨o2, e3, e4⟩⟩ := a1 c hc
      exact ⟨⟨o1, up e1, e2⟩, ⟨o2, up e3, e4⟩⟩
theorem zip_begins {ts : List (Addr × Array Value)} {Q : Value → Shared → Prop} (ht : ∀ t ∈ ts, s.heap.IsTuple t.1 t.2) (hl : ts.length ≤ 12)
    (q : ∀ h', ZSt (s.heap.objs.size + ts.length + 2) (s.heap.objs.size + ts.length) (s.heap.objs.size + ts.length + 1) (colsOf s.heap.objs.size ts) 0 h' → IsZ h' (s.heap.objs.size + ts.length + 2) (s.heap.objs.size + ts.length) (s.heap.objs.size + ts.length + 1) .none false → h'.objs.size = s.heap.objs.size + ts.length + 3 → (∀ b o, s.heap.get? b = some o → h'.get? b = some o) → Q (.ref (s.heap.objs.size + ts.length + 2)) { s with heap := h' }) :
    wpAny (model prog w) A (call (.type "zip") (ts.map fun t => Value.ref t.1)) Q E s := by
  refine callType_new F.called_zip (by decide) (tc_zip _) (nc_zip _ (by rw [List.length_map]; exact hl)) (fun obj => oi_any obj _) F.entry_zip_new zip_new ⟨ht, hl, fun h' a1 a0 a2 a3 => ⟨⟨_, a0, rfl⟩, q h' a1 a0 a2 a3⟩⟩
/-- next(z) within another iterator -/
theorem nextOf_zip {f0 : Value} {f1 : Bool} {Q : Value → Shared → Prop} (hz : IsZ s.heap z TI TO f0 f1) (h : wpAny (model prog w) A.in1 (Builtin.«zip.__next__» { pos := [.ref z] }) (fun fin s' => ∃ v, fin = .done (.ret v) ∧ Q v s') E s) : wpAny (model prog w) A (Builtin.SmallTypes.nextOf (.ref z)) Q E s := by
  unfold Builtin.SmallTypes.nextOf
  have ht : s.TypeIs (.ref z) "zip" := ⟨_, hz, rfl⟩
  refine wpAny_bind (wpAny_callSpecial?_slot ht F.slot_zip_next (wpAny_call_entry F.slot_zip_next ht F.entry_zip_next ?_ (F.args_zip_next_1 _)))
  refine wpAny_mono h (fun fin s' ⟨v, e, q⟩ => ⟨v, e, wpAny_pure q⟩) fun _ _ e => e
/-- a turn of enumerate(zip(*rows)) -/
theorem en_item {e : Addr} {j : Int} {old : Value} {Q : Value → Shared → Prop} (S : Sep z TI TO cs) (hne : cs ≠ []) (h1000 : cs.length ≤ 1000) (he : IsEnum s.heap e z j old) (ez : e ≠ z ∧ e ≠ TO ∧ e ∉ cs.map (·.1) ∧ e ≠ TI ∧ ∀ c ∈ cs, c.2.1 ≠ e) (st : ZSt z TI TO cs i s.heap) (hlt : ∀ c ∈ cs, i < c.2.2.size)
    (q : ∀ h1 h' (ys : List Value) (tk : Nat), IsT h1 s.heap.objs.size ys → ys.length = cs.length → (∀ (k : Nat) (c : Col) (y : Value), cs[k]? = some c → ys[k]? = some y → c.2.2[i]? = some y) → h1.objs.size = s.heap.objs.size + 1 → (∀ b o, b ≠ z → b ≠ TO → b ∉ cs.map (·.1) → s.heap.get? b = some o → h1.get? b = some o) → (∀ b o, b ≠ e → h1.get? b = some o → h'.get? b = some o) → h'.get? (s.heap.objs.size + 1) = some { cls := .type "tuple", data := .seq #[.int j tk, .ref s.heap.objs.size] } → IsEnumOut h' e z (j + 1) (.ref s.heap.objs.size) (s.heap.objs.size + 1) → ZSt z TI TO cs (i + 1) h' → Q (.ref (s.heap.objs.size + 1)) { s with heap := h', toks := tk + 1 }) :
    wpAny (model prog w) A (Builtin.«enumerate.__next__» { pos := [.ref e] }) (fun fin s' => ∃ v, fin = .done (.ret v) ∧ Q v s') E s := by
  obtain ⟨f0, f1, hz, _⟩ := st.z
  have hel := Heap.lt_size he
  unfold Builtin.«enumerate.__next__»
  simp only [slotArgs]
  refine wpAny_bind (wpAny_pure ?_)
  refine wpAny_bind (wpAny_field he rfl rfl ?_)
  refine wpAny_bind (nextOf_zip hz (zn_item S hne h1000 st hlt fun h1 ys a1 a2 a3 a4 a5 a6 => ?_))
  have he1 : IsEnum h1 e z j old := a6 e _ ez.1 ez.2.1 ez.2.2.1 he
  refine wpAny_bind (wpAny_field he1 rfl rfl ?_)
  show wpAny (model prog w) A (do
      let given ← field (Value.ref e) 4
      if (given == Value.none) = true then do
          let index ← mkInt j
          setField (Value.ref e) 3 (rawInt (j + 1))
          setField (Value.ref e) 4 Value.none
          let result ← newTuple [index, Value.ref s.heap.objs.size]
          let __do_lift ← Builtin.SmallTypes.ownedTupleIsFree (Value.ref e)
          if __do_lift = true then do
              rule "enumerate.__next__.owned-tuple-again"
              let old ← field (Value.ref e) 5
              setField (Value.ref e) 5 (Value.ref s.heap.objs.size)
              Builtin.SmallTypes.ownedTupleHandOut (Value.ref e) result
              letGo [old] [result]
              ret result
            else ret result
        else do
          let index ← pure given
          setField (Value.ref e) 3 (rawInt (j + 1))
          setField (Value.ref e) 4 Value.none
          let result ← newTuple [index, Value.ref s.heap.objs.size]
          let __do_lift ← Builtin.SmallTypes.ownedTupleIsFree (Value.ref e)
          if __do_lift = true then do
              rule "enumerate.__next__.owned-tuple-again"
              let old ← field (Value.ref e) 5
              setField (Value.ref e) 5 (Value.ref s.heap.objs.size)
              Builtin.SmallTypes.ownedTupleHandOut (Value.ref e) result
              letGo [old] [result]
              ret result
            else ret result) _ _ _
  refine wpAny_bind (wpAny_field he1 rfl rfl ?_)
  refine wpAny_ite_true (by rfl) (wpAny_bind (wpAny_mkInt ?_))
  refine wpAny_bind (wpAny_setField_rec he1 (by simp) fun h2 hz2 sb2 => ?_)
  refine wpAny_bind (wpAny_setField_rec hz2 (by simp) fun h3 hz3 sb3 => ?_)
  refine wpAny_bind (wpAny_newTuple ?_ (by rw [sizeLine_eq]; simp))
  have hs3 : h3.objs.size = s.heap.objs.size + 1 := by rw [sb3.1, sb2.1, a5]
  have hez : e ≠ s.heap.objs.size + 1 := Nat.ne_of_lt (Nat.lt_succ_of_lt hel)
  have hz4 : (h3.push { cls := .type "tuple", data := .seq #[.int j s.toks, .ref s.heap.objs.size] }).get? e = some { cls := .type "enumerate", data := .fields #[.none, .bool false, .ref z, rawInt (j + 1), .none, old] } := Heap.get?_push_of_some _ hz3
  unfold Builtin.SmallTypes.ownedTupleIsFree
  refine wpAny_bind (wpAny_bind (wpAny_field hz4 rfl rfl ?_))
  refine wpAny_pure ?_
  refine wpAny_ite_true (by rfl) (wpAny_bind (wpAny_rule ?_))
  refine wpAny_bind (wpAny_field hz4 rfl rfl ?_)
  refine wpAny_bind (wpAny_setField_rec hz4 (by simp) fun h5 hz5 sb5 => ?_)
  unfold Builtin.SmallTypes.ownedTupleHandOut
  refine wpAny_bind (wpAny_bind (wpAny_setField_rec hz5 (by simp) fun h6 hz6 sb6 => ?_))
  refine wpAny_setField_rec hz6 (by simp) fun h7 hz7 sb7 => ?_
  refine wpAny_bind (wpAny_letGo ?_)
  refine wpAny_pure ⟨_, rfl, ?_⟩
  show Q (Value.ref h3.objs.size) _
  rw [hs3]
  have keep : ∀ {b o}, b ≠ e → h1.get? b = some o → h7.get? b = some o := fun hb hg => by
    rw [sb7.2 _ hb, sb6.2 _ hb, sb5.2 _ hb]
    refine Heap.get?_push_of_some _ ?_
    rw [sb3.2 _ hb, sb2.2 _ hb]; exact hg
  refine q h1 h7 ys s.toks a1 a2 a3 a5 a6 (fun b o hb hg => keep hb hg) ?_ ?_ ?_
  · rw [sb7.2 _ (Ne.symm hez), sb6.2 _ (Ne.symm hez), sb5.2 _ (Ne.symm hez), ← hs3]
    exact Heap.get?_push_size _ rfl
  · show h7.get? e = some { cls := .type "enumerate", data := .fields #[rawInt ((s.heap.objs.size + 1 : Nat) : Int), .bool false, .ref z, rawInt (j + 1), .none, .ref s.heap.objs.size] }
    rw [← hs3]; exact hz7
  · obtain ⟨⟨f0', f1', b1, b2⟩, b3, ⟨os, b4, b5⟩, b6⟩ := a4
    refine ⟨⟨f0', f1', keep (Ne.symm ez.1) b1, b2⟩, ?_, ⟨os, keep (Ne.symm ez.2.1) b4, b5⟩, fun c hc => ?_⟩
    · exact keep (Ne.symm ez.2.2.2.1) b3
    · obtain ⟨⟨o1, e1, e2⟩, ⟨o2, e3, e4⟩⟩ := b6 c hc
      exact ⟨⟨o1, keep (fun h => ez.2.2.1 (by rw [← h]; exact List.mem_map.mpr ⟨c, hc, rfl⟩)) e1, e2⟩, ⟨o2, keep (ez.2.2.2.2 c hc) e3, e4⟩⟩
/-- enumerate(zip(*rows)) is at its end -/
theorem en_end {e : Addr} {j : Int} {old : Value} {Q : PySem.Fin → Shared → Prop} (hh : A.in1.handled = none) (S : Sep z TI TO cs) (hne : cs ≠ []) (he : IsEnum s.heap e z j old) (st : ZSt z TI TO cs i s.heap) (hend : ∀ c ∈ cs, c.2.2.size = i)
    (q : ∀ h' e, (∀ b o, b ≠ z → b ∉ cs.map (·.1) → s.heap.get? b = some o → h'.get? b = some o) → (∃ o, h'.get? e = some o ∧ o.cls = .type "StopIteration") → E (.ref e) { s with heap := h' }) :
    wpAny (model prog w) A (Builtin.«enumerate.__next__» { pos := [.ref e] }) Q E s := by
  obtain ⟨f0, f1, hz, _⟩ := st.z
  unfold Builtin.«enumerate.__next__»
  simp only [slotArgs]
  refine wpAny_bind (wpAny_pure ?_)
  refine wpAny_bind (wpAny_field he rfl rfl ?_)
  refine wpAny_bind (nextOf_zip hz (zn_end hh S hne st hend q))
theorem meets_enumerate_newZ : Meets (Builtin.«enumerate.__new__» ⟨[.type "enumerate", .ref z], []⟩) (fun _ R s => (∃ TI TO f0, IsZip s.heap z TI TO f0) ∧
      R (.ok (.ret (.ref s.heap.objs.size))) { s with heap := s.heap.push { cls := .type "enumerate", data := .fields #[.none, .bool false, .ref z, rawInt 0, .none, .none] } }) :=
  .of_wp fun prog w A R s h => by
    obtain ⟨hp, g, d, tk, os⟩ := s; obtain ⟨⟨TI, TO, f0, h1⟩, h⟩ := h
    have hsub := sub_enumerate
    have q1 : ∀ {A' : Around} {E : Value → Shared → Prop} {Q : Value → Shared → Prop}, Q (.ref z) ⟨hp, g, d, tk, os⟩ → wpAny (model prog w) A' (pyIter (.ref z)) Q E ⟨hp, g, d, tk, os⟩ :=
      fun q => wpAny_pyIter_zip h1 q
    wp_walk using q1
    refine wpAny_stack_any fun st => wpAny_pure ?_
    split
    · rename_i c _ _ _ _ _
      cases (c == Value.type "enumerate")
      · wp_walk using q1
        exact ⟨_, rfl, h⟩
      · wp_walk using q1
        exact ⟨_, rfl, h⟩
    · wp_walk using q1
      exact ⟨_, rfl, h⟩
theorem enum_zip {f0 : Value} {Q : Value → Shared → Prop} (hz : IsZip s.heap z TI TO f0)
    (q : IsEnum (s.heap.push { cls := .type "enumerate", data := .fields #[.none, .bool false, .ref z, rawInt 0, .none, .none] }) s.heap.objs.size z 0 .none → Q (.ref s.heap.objs.size) { s with heap := s.heap.push { cls := .type "enumerate", data := .fields #[.none, .bool false, .ref z, rawInt 0, .none, .none] } }) :
    wpAny (model prog w) A (call (.type "enumerate") [.ref z]) Q E s := by
  refine callType_new F.called_enumerate (by decide) (F.typeCall_enumerate_1 _) (F.newCall_enumerate_1 _) (fun obj => F.args_object_init_2 obj _) F.entry_enumerate_new
    meets_enumerate_newZ ⟨⟨TI, TO, f0, hz⟩, ?_⟩
  have he : IsEnum (s.heap.push { cls := .type "enumerate", data := .fields #[.none, .bool false, .ref z, rawInt 0, .none, .none] }) s.heap.objs.size z 0 .none := Heap.get?_push_size s.heap (o := { cls := .type "enumerate", data := .fields #[.none, .bool false, .ref z, rawInt 0, .none, .none] }) rfl
  exact ⟨⟨_, he, rfl⟩, q he⟩
theorem next_enum {e : Addr} {j : Int} {old : Value} {Q : Option Value → Shared → Prop} (he : IsEnum s.heap e z j old) (h : wpAny (model prog w) A.in1 (Builtin.«enumerate.__next__» { pos := [.ref e] }) (fun fin s' => ∃ v, fin = .done (.ret v) ∧ Q (some v) s') (fun x s' => (∃ o a, x = .ref a ∧ s'.heap.get? a = some o ∧ o.cls = .type "StopIteration") ∧ Q none s') s) :
    wpAny (model prog w) A (pyNext (.ref e)) Q E s := by
  unfold pyNext
  have ht : s.TypeIs (.ref e) "enumerate" := ⟨_, he, rfl⟩
  refine wpAny_bind (wpAny_attempt (wpAny_callSpecial?_slot ht F.slot_enumerate_next (wpAny_call_entry F.slot_enumerate_next ht F.entry_enumerate_next ?_ (F.args_enumerate_next_1 _))))
  refine wpAny_mono h (fun fin s' ⟨v, e, q⟩ => ⟨v, e, wpAny_pure q⟩) fun x s' ⟨⟨o, a, ex, e1, e2⟩, q⟩ => ?_
  subst ex
  refine wpAny_bind (wpAny_isInstance ⟨o, e1, e2⟩ isSubtype_stop ?_)
  exact wpAny_pure q
end
/-- enumerate(zip(*rows)): the rows stand at ts -/
def ItZ (K : PySem.W.Frag) (ts : List Addr) : It :=
  ⟨fun i H => ∃ xss : List (List V), ts.length = xss.length ∧ (∀ (k : Nat) (t : Addr) (xs : List V), ts[k]? = some t → xss[k]? = some xs → SqT K H t xs) ∧ ∀ xs ∈ xss, i < xs.length,
    fun i H v H' => ∃ (T L : Addr) (col : List V), v = .ref T ∧ H L = none ∧ H T = none ∧ T ≠ L ∧ H' = upd (upd H L (.tup col)) T (.tup [.int (i : Nat), .ref L]) ∧ col.length = ts.length ∧ ∀ (k : Nat) (t : Addr) (xs : List V), ts[k]? = some t → SqT K H t xs → ∃ x, xs[i]? = some x ∧ col[k]? = some x,
    fun i H => ∃ xss : List (List V), ts.length = xss.length ∧ (∀ (k : Nat) (t : Addr) (xs : List V), ts[k]? = some t → xss[k]? = some xs → SqT K H t xs) ∧ ∀ xs ∈ xss, xs.length = i⟩
theorem tup_inj {h : Heap} {a : Addr} {x y : Array Value} (p : h.IsTuple a x) (q : h.IsTuple a y) : x = y := by
  obtain ⟨o, e, c, n, d⟩ := p
  obtain ⟨o', e', c', n', d'⟩ := q
  rw [e] at e'; cases e'
  rw [d] at d'; cases d'; rfl
/-- iterators and rows, without what stands in the rows -/
abbrev Row := Addr × Addr
structure ZS (z TI TO : Addr) (ds : List Row) (i : Nat) (h : Heap) : Prop where
  z : ∃ f0 f1, IsZ h z TI TO f0 f1 ∧ (f0 = .none ∨ ∃ a : Nat, f0 = rawInt a)
  ti : IsT h TI (ds.map fun d => .ref d.1)
  to : ∃ os, IsT h TO os ∧ os.length = ds.length
  it : ∀ d ∈ ds, h.IsTupleIter d.1 d.2 i
def mkc (ds : List Row) (as : List (Array Value)) : List Col := List.zipWith (fun d x => (d.1, d.2, x)) ds as
theorem mkc_len {ds : List Row} {as : List (Array Value)} (h : as.length = ds.length) : (mkc ds as).length = ds.length := by unfold mkc; rw [List.length_zipWith]; omega
theorem mkc_map {β : Type} (f : Row → β) : ∀ {ds : List Row} {as : List (Array Value)}, as.length = ds.length → (mkc ds as).map (fun c => f (c.1, c.2.1)) = ds.map f
  | [], _, _ => rfl
  | d :: ds, [], h => by simp at h
  | d :: ds, a :: as, h => by
    show f (d.1, d.2) :: (mkc ds as).map _ = _
    rw [mkc_map f (by simpa using h)]; rfl
theorem mkc_mem : ∀ {ds : List Row} {as : List (Array Value)} {c : Col}, c ∈ mkc ds as → ∃ k : Nat, ds[k]? = some (c.1, c.2.1) ∧ as[k]? = some c.2.2
  | [], _, c, h => by simp [mkc] at h
  | d :: ds, [], c, h => by simp [mkc] at h
  | d :: ds, a :: as, c, h => by
    rcases List.mem_cons.mp (show c ∈ (d.1, d.2, a) :: mkc ds as from h) with rfl | h
    · exact ⟨0, rfl, rfl⟩
    · obtain ⟨k, h1, h2⟩ := mkc_mem h
      exact ⟨k + 1, by simpa using h1, by simpa using h2⟩
theorem mkc_get {ds : List Row} {as : List (Array Value)} {k : Nat} {d : Row} {x : Array Value} (h1 : ds[k]? = some d) (h2 : as[k]? = some x) : (mkc ds as)[k]? = some (d.1, d.2, x) := by
  unfold mkc
  rw [List.getElem?_zipWith, h1, h2]
structure Fp (e z TI TO : Addr) (ds : List Row) : Prop where
  nd : (ds.map (·.1)).Nodup
  it : ∀ d ∈ ds, d.1 ≠ z ∧ d.1 ≠ TI ∧ d.1 ≠ TO ∧ d.1 ≠ e
  tu : ∀ d ∈ ds, d.2 ≠ z ∧ d.2 ≠ TO ∧ d.2 ∉ ds.map (·.1) ∧ d.2 ≠ e
  zt : TI ≠ z ∧ TO ≠ z ∧ TI ≠ TO ∧ e ≠ z ∧ e ≠ TO ∧ e ≠ TI
theorem Fp.sep {e z TI TO : Addr} {ds : List Row} (F : Fp e z TI TO ds) {as : List (Array Value)} (h : as.length = ds.length) : Sep z TI TO (mkc ds as) := by
  have e1 := mkc_map (fun d => d.1) h
  have hm : ∀ {c}, c ∈ mkc ds as → (c.1, c.2.1) ∈ ds := fun hc => by obtain ⟨k, h1, _⟩ := mkc_mem hc; exact List.mem_of_getElem? h1
  refine ⟨by rw [show (mkc ds as).map (·.1) = ds.map (·.1) from e1]; exact F.nd, fun c hc => ?_, fun c hc => ?_, F.zt.1, F.zt.2.1, F.zt.2.2.1⟩
  · have := F.it _ (hm hc); exact ⟨this.1, this.2.1, this.2.2.1⟩
  · have := F.tu _ (hm hc)
    refine ⟨this.1, this.2.1, ?_⟩
    rw [show (mkc ds as).map (·.1) = ds.map (·.1) from e1]; exact this.2.2.1
theorem ZS.full {z TI TO : Addr} {ds : List Row} {i : Nat} {h : Heap} {as : List (Array Value)} (st : ZS z TI TO ds i h) (hl : as.length = ds.length) (ht : ∀ (k : Nat) (d : Row) (x : Array Value), ds[k]? = some d → as[k]? = some x → h.IsTuple d.2 x) : ZSt z TI TO (mkc ds as) i h := by
  obtain ⟨hz, hti, ⟨os, ho, hol⟩, hit⟩ := st
  refine ⟨hz, ?_, ⟨os, ho, by rw [mkc_len hl]; exact hol⟩, fun c hc => ?_⟩
  · rw [show (mkc ds as).map (fun c => Value.ref c.1) = ds.map (fun d => Value.ref d.1) from mkc_map (fun d => Value.ref d.1) hl]; exact hti
  · obtain ⟨k, h1, h2⟩ := mkc_mem hc
    exact ⟨hit _ (List.mem_of_getElem? h1), ht k _ _ h1 h2⟩
theorem ZSt.less {z TI TO : Addr} {ds : List Row} {i : Nat} {h : Heap} {as : List (Array Value)} (hl : as.length = ds.length) (st : ZSt z TI TO (mkc ds as) i h) : ZS z TI TO ds i h := by
  obtain ⟨hz, hti, ⟨os, ho, hol⟩, hat⟩ := st
  refine ⟨hz, ?_, ⟨os, ho, by rw [← mkc_len hl]; exact hol⟩, fun d hd => ?_⟩
  · rw [← show (mkc ds as).map (fun c => Value.ref c.1) = ds.map (fun d => Value.ref d.1) from mkc_map (fun d => Value.ref d.1) hl]; exact hti
  · obtain ⟨k, hk⟩ := List.mem_iff_getElem?.mp hd
    have hkl := (List.getElem?_eq_some_iff.mp hk).1
    have := hat _ (List.mem_of_getElem? (mkc_get hk (List.getElem?_eq_getElem (by omega))))
    exact this.1
def fpZ (e z TI TO : Addr) (ds : List Row) : List Addr := e :: z :: TI :: TO :: ds.map (·.1)
theorem ex_list {β : Type} {P : Nat → β → Prop} : ∀ n, (∀ k, k < n → ∃ x, P k x) → ∃ l : List β, l.length = n ∧ ∀ (k : Nat) (x : β), l[k]? = some x → P k x
  | 0, _ => ⟨[], rfl, fun k x h => by simp at h⟩
  | n + 1, h => by
    obtain ⟨l, h1, h2⟩ := ex_list n fun k hk => h k (by omega)
    obtain ⟨x, hx⟩ := h n (by omega)
    refine ⟨l ++ [x], by simp [h1], fun k y hy => ?_⟩
    by_cases hk : k < n
    · rw [List.getElem?_append_left (by omega)] at hy; exact h2 k y hy
    · rw [List.getElem?_append_right (by omega)] at hy
      have : k - l.length = 0 := by have := (List.getElem?_eq_some_iff.mp hy).1; simp at this; omega
      rw [this] at hy
      have e : k = n := by omega
      subst e
      simp at hy; subst hy; exact hx
theorem vals_of : ∀ (vs : List V) (us : List Value), vs.length = us.length → (∀ (k : Nat) (v : V) (u : Value), vs[k]? = some v → us[k]? = some u → RelV v u) → Vals vs us
  | [], [], _, _ => .nil
  | [], _ :: _, h, _ => by simp at h
  | _ :: _, [], h, _ => by simp at h
  | v :: vs, u :: us, h, r => .cons (r 0 v u rfl rfl) (vals_of vs us (by simpa using h) fun k v' u' h1 h2 => r (k + 1) v' u' (by simpa using h1) (by simpa using h2))
theorem fpZ_cases {e z TI TO b : Addr} {ds : List Row} (h : b ∉ fpZ e z TI TO ds) : b ≠ e ∧ b ≠ z ∧ b ≠ TI ∧ b ≠ TO ∧ b ∉ ds.map (·.1) := by
  simp only [fpZ, List.mem_cons, not_or] at h
  exact ⟨h.1, h.2.1, h.2.2.1, h.2.2.2.1, h.2.2.2.2⟩
theorem rows_of {X : Cx} {pins : List (Addr × Obj)} {σ : L2.St} {H : Hp} {s : Shared} {ds : List Row} {xss : List (List V)} (I : Inv X pins σ H s) (hl : ds.length = xss.length) (hx : ∀ (k : Nat) (t : Addr) (xs : List V), (ds.map (·.2))[k]? = some t → xss[k]? = some xs → SqT X.K H t xs) :
    ∃ as : List (Array Value), as.length = ds.length ∧ ∀ (k : Nat) (x : Array Value), as[k]? = some x → ∀ (d : Row) (xs : List V), ds[k]? = some d → xss[k]? = some xs → s.heap.IsTuple d.2 x ∧ ∃ its : List Value, Vals xs its ∧ x = its.toArray := by
  refine ex_list (P := fun k x => ∀ (d : Row) (xs : List V), ds[k]? = some d → xss[k]? = some xs → s.heap.IsTuple d.2 x ∧ ∃ its : List Value, Vals xs its ∧ x = its.toArray) ds.length fun k hk => ?_
  have h1 := hx k _ _ (by rw [List.getElem?_map, List.getElem?_eq_getElem hk]; rfl) (List.getElem?_eq_getElem (by omega))
  obtain ⟨its, rv, p, _⟩ := I.tuple h1
  refine ⟨its.toArray, fun d xs e1 e2 => ?_⟩
  rw [List.getElem?_eq_getElem hk] at e1
  rw [List.getElem?_eq_getElem (by omega)] at e2
  cases e1; cases e2
  exact ⟨p, its, rv, rfl⟩
theorem turn_Z {P : Program} {w : World} {K : PySem.W.Frag} {elts : List PySem.Expr} {kk : Nat} {tpos : Pos} {e z TI TO : Addr} {ds : List Row} (F : Fp e z TI TO ds) (hne : ds ≠ []) (h1000 : ds.length ≤ 1000) :
    Turn P w K (.Tuple elts kk tpos) (ItZ K (ds.map (·.2))) (fpZ e z TI TO ds) e (fun i h => (∃ old, IsEnum h e z ((i : Nat) : Int) old) ∧ ZS z TI TO ds i h) where
  mem := by simp [fpZ]
  obj := fun i h st b hb => by
    obtain ⟨⟨old, he⟩, ⟨⟨f0, f1, hz, _⟩, hTI, ⟨os, hTO, _⟩, hat⟩⟩ := st
    rcases List.mem_cons.mp hb with q | hb
    · rw [q]; exact ⟨_, he, fun v q => nomatch q⟩
    rcases List.mem_cons.mp hb with q | hb
    · rw [q]; exact ⟨_, hz, fun v q => nomatch q⟩
    rcases List.mem_cons.mp hb with q | hb
    · rw [q]; exact ⟨_, hTI, fun v q => nomatch q⟩
    rcases List.mem_cons.mp hb with q | hb
    · rw [q]; exact ⟨_, hTO, fun v q => nomatch q⟩
    obtain ⟨c, hc, rfl⟩ := List.mem_map.mp hb
    obtain ⟨o, e1, _, e2⟩ := hat c hc
    exact ⟨o, e1, fun v q => by rw [e2] at q; cases q⟩
  keep := fun i h h' st k => by
    obtain ⟨⟨old, he⟩, ⟨⟨f0, f1, hz, hf⟩, hTI, ⟨os, hTO, ho⟩, hat⟩⟩ := st
    refine ⟨⟨old, k e (by simp [fpZ]) _ he⟩, ⟨f0, f1, k z (by simp [fpZ]) _ hz, hf⟩, k TI (by simp [fpZ]) _ hTI, ⟨os, k TO (by simp [fpZ]) _ hTO, ho⟩, fun d hd => ?_⟩
    obtain ⟨o, e1, e2⟩ := hat d hd
    exact ⟨o, k d.1 (by simp only [fpZ, List.mem_cons]; exact .inr (.inr (.inr (.inr (List.mem_map.mpr ⟨d, hd, rfl⟩))))) _ e1, e2⟩
  item := by
    intro X hP hw hK hc i pins s σ H E I hf st hg
    subst hP hw hK
    obtain ⟨⟨old, he⟩, zs⟩ := st
    obtain ⟨xss, hl, hx, hlt⟩ := hg
    rw [List.length_map] at hl
    obtain ⟨as, hal, has⟩ := rows_of I hl hx
    have hsz : ∀ c ∈ mkc ds as, ∃ (k : Nat) (xs : List V) (its : List Value), ds[k]? = some (c.1, c.2.1) ∧ xss[k]? = some xs ∧ Vals xs its ∧ c.2.2 = its.toArray := fun c hc' => by
      obtain ⟨k, h1, h2⟩ := mkc_mem hc'
      have hk := (List.getElem?_eq_some_iff.mp h1).1
      obtain ⟨xs, hxs⟩ : ∃ xs, xss[k]? = some xs := ⟨_, List.getElem?_eq_getElem (by omega)⟩
      obtain ⟨_, its, rv, ex⟩ := has k _ h2 _ _ h1 hxs
      exact ⟨k, xs, its, h1, hxs, rv, ex⟩
    have full := zs.full hal fun k d x h1 h2 => by
      have hk := (List.getElem?_eq_some_iff.mp h1).1
      exact (has k x h2 d _ h1 (List.getElem?_eq_getElem (by omega))).1
    have S := F.sep hal
    have hne' : mkc ds as ≠ [] := fun h => hne (List.length_eq_zero_iff.mp (by rw [← mkc_len hal, h]; rfl))
    have emap : (mkc ds as).map (·.1) = ds.map (·.1) := mkc_map (fun d => d.1) hal
    have hel := Heap.lt_size he
    have ez : e ≠ z ∧ e ≠ TO ∧ e ∉ (mkc ds as).map (·.1) ∧ e ≠ TI ∧ ∀ c ∈ mkc ds as, c.2.1 ≠ e := by
      refine ⟨F.zt.2.2.2.1, F.zt.2.2.2.2.1, ?_, F.zt.2.2.2.2.2, fun c hc' => ?_⟩
      · rw [emap]; intro h; obtain ⟨d, hd, q⟩ := List.mem_map.mp h; exact (F.it d hd).2.2.2 q
      · obtain ⟨k, h1, _⟩ := mkc_mem hc'
        exact (F.tu _ (List.mem_of_getElem? h1)).2.2.2
    refine next_enum he (en_item S hne' (by rw [mkc_len hal]; exact h1000) he ez full (fun c hc' => ?_) fun h1 h' ys tk a1 a2 a3 a4 a5 a6 a7 a8 a9 => ?_)
    · obtain ⟨k, xs, its, q1, q2, rv, ex⟩ := hsz c hc'
      have := hlt xs (List.mem_of_getElem? q2)
      rw [ex]; simp; rw [← rv.length]; exact this
    · refine ⟨_, rfl, wpAny_letOwnedTupleGo_enum (s := { s with heap := h', toks := tk + 1 }) a8 fun h'' he' sb => ?_⟩
      rw [mkc_len hal] at a2
      have hcol : Vals (xss.map fun xs => xs.getD i .non) ys := vals_of _ _ (by rw [List.length_map]; omega) fun k v u e1 e2 => by
        rw [List.getElem?_map, Option.map_eq_some_iff] at e1
        obtain ⟨xs, hxs, rfl⟩ := e1
        have hk := (List.getElem?_eq_some_iff.mp hxs).1
        obtain ⟨d, hd⟩ : ∃ d, ds[k]? = some d := ⟨_, List.getElem?_eq_getElem (by omega)⟩
        obtain ⟨x, hxa⟩ : ∃ x, as[k]? = some x := ⟨_, List.getElem?_eq_getElem (by omega)⟩
        obtain ⟨_, its, rv, ex⟩ := has k x hxa d xs hd hxs
        have e3 := a3 k _ u (mkc_get hd hxa) e2
        rw [ex] at e3
        have hi := hlt xs (List.mem_of_getElem? hxs)
        obtain ⟨u', hu', ru⟩ := rv.get (List.getElem?_eq_getElem hi)
        have : u' = u := by
          have e4 : its[i]? = some u := by simpa using e3
          rw [hu'] at e4; exact Option.some.inj e4
        subst this
        rw [List.getD_eq_getElem?_getD, List.getElem?_eq_getElem hi]
        exact ru
      have hys : ys.length ≤ sizeLine := by rw [sizeLine_eq]; omega
      have new1 : ObjOk X.prog X.w (upd H s.heap.objs.size (.tup (xss.map fun xs => xs.getD i .non))) h1 s.heap.objs.size (.tup (xss.map fun xs => xs.getD i .non)) :=
        ⟨by rw [List.length_map, ← hl, ← a2]; exact hys, ys, hcol, ⟨_, a1, rfl, _, rfl⟩⟩
      have I1 : Inv X pins σ (upd H s.heap.objs.size (.tup (xss.map fun xs => xs.getD i .non))) { s with heap := h1, toks := tk + 1 } :=
        I.turnedNew (t' := tk + 1) (ch := fpZ e z TI TO ds) (fun b o hb q => by
          have := fpZ_cases hb
          exact a5 b o this.2.1 this.2.2.2.1 (by rw [emap]; exact this.2.2.2.2) q) hf (Nat.le_refl _) new1
      have hL : s.heap.objs.size ≠ s.heap.objs.size + 1 := Nat.ne_of_lt (Nat.lt_succ_self _)
      have heL : e ≠ s.heap.objs.size := Nat.ne_of_lt hel
      have heT : e ≠ s.heap.objs.size + 1 := Nat.ne_of_lt (Nat.lt_succ_of_lt hel)
      have hT2 : h''.get? (s.heap.objs.size + 1) = some { cls := .type "tuple", data := .seq #[.int i tk, .ref s.heap.objs.size] } := (sb.2 _ (Ne.symm heT)).trans a7
      have new2 : ObjOk X.prog X.w (upd (upd H s.heap.objs.size (.tup (xss.map fun xs => xs.getD i .non))) (s.heap.objs.size + 1) (.tup [.int (i : Nat), .ref s.heap.objs.size])) h'' (s.heap.objs.size + 1) (.tup [.int (i : Nat), .ref s.heap.objs.size]) :=
        ⟨by show 2 ≤ sizeLine; decide, [.int i tk, .ref s.heap.objs.size], .cons ⟨_, rfl⟩ (.cons rfl .nil), ⟨_, hT2, rfl, _, rfl⟩⟩
      have fe := hf e (by simp [fpZ])
      have I2 : Inv X pins σ (upd (upd H s.heap.objs.size (.tup (xss.map fun xs => xs.getD i .non))) (s.heap.objs.size + 1) (.tup [.int (i : Nat), .ref s.heap.objs.size])) { s with heap := h'', toks := tk + 1 } :=
        I1.turnedNew (t' := tk + 1) (ch := [e]) (fun b o hb q => by
          have hbe : b ≠ e := by simpa using hb
          exact (sb.2 b hbe).trans (a6 b o hbe q)) (fun b hb => by
            rw [List.mem_singleton.mp hb]
            exact ⟨by rw [upd_ne heL]; exact fe.1, fe.2⟩) (by show h1.objs.size ≤ _; rw [a4]; exact Nat.le_refl _) new2
      refine ⟨.ref (s.heap.objs.size + 1), _, I2, rfl, ⟨s.heap.objs.size + 1, s.heap.objs.size, _, rfl, I.hok.fresh (Nat.le_refl _), I.hok.fresh (Nat.le_succ _), Ne.symm hL, rfl, by rw [List.length_map, List.length_map]; omega, fun k t xs e1 e2 => ?_⟩, ⟨⟨.ref s.heap.objs.size, ?_⟩, ?_⟩, fun b hb => ?_⟩
      · have hk := (List.getElem?_eq_some_iff.mp e1).1
        rw [List.length_map] at hk
        obtain ⟨xs', hxs'⟩ : ∃ xs', xss[k]? = some xs' := ⟨_, List.getElem?_eq_getElem (by omega)⟩
        have := I.tuple_inj e2 (hx k t xs' e1 hxs')
        subst this
        have hi := hlt xs (List.mem_of_getElem? hxs')
        refine ⟨xs[i], List.getElem?_eq_getElem hi, ?_⟩
        rw [List.getElem?_map, hxs']
        show some (xs.getD i .non) = _
        rw [List.getD_eq_getElem?_getD, List.getElem?_eq_getElem hi]; rfl
      · have e1 : ((i + 1 : Nat) : Int) = (i : Int) + 1 := by omega
        rw [e1]; exact he'
      · obtain ⟨⟨f0, f1, b1, b2⟩, b3, ⟨os, b4, b5⟩, b6⟩ := a9.less hal
        have k2 : ∀ {b o}, b ≠ e → h'.get? b = some o → h''.get? b = some o := fun hb q => (sb.2 _ hb).trans q
        refine ⟨⟨f0, f1, k2 (Ne.symm F.zt.2.2.2.1) b1, b2⟩, k2 (Ne.symm F.zt.2.2.2.2.2) b3, ⟨os, k2 (Ne.symm F.zt.2.2.2.2.1) b4, b5⟩, fun d hd => ?_⟩
        obtain ⟨o, q1, q2⟩ := b6 d hd
        exact ⟨o, k2 (F.it d hd).2.2.2 q1, q2⟩
      · have hbl : b < s.heap.objs.size := by
          rcases List.mem_cons.mp hb with q | hb
          · rw [q]; exact hel
          rcases List.mem_cons.mp hb with q | hb
          · rw [q]; obtain ⟨f0, f1, hz, _⟩ := zs.z; exact Heap.lt_size hz
          rcases List.mem_cons.mp hb with q | hb
          · rw [q]; exact Heap.lt_size zs.ti
          rcases List.mem_cons.mp hb with q | hb
          · rw [q]; obtain ⟨os, ho, _⟩ := zs.to; exact Heap.lt_size ho
          obtain ⟨d, hd, rfl⟩ := List.mem_map.mp hb
          obtain ⟨o, q1, _⟩ := zs.it d hd
          exact Heap.lt_size q1
        rw [upd_ne (Nat.ne_of_lt (Nat.lt_succ_of_lt hbl)), upd_ne (Nat.ne_of_lt hbl)]
        exact (hf b hb).1
  done := by
    intro X hP hw hK hc i pins s σ H E I hf st hg
    subst hP hw hK
    obtain ⟨⟨old, he⟩, zs⟩ := st
    obtain ⟨xss, hl, hx, hend⟩ := hg
    rw [List.length_map] at hl
    obtain ⟨as, hal, has⟩ := rows_of I hl hx
    have full := zs.full hal fun k d x h1 h2 => by
      have hk := (List.getElem?_eq_some_iff.mp h1).1
      exact (has k x h2 d _ h1 (List.getElem?_eq_getElem (by omega))).1
    have S := F.sep hal
    have hne' : mkc ds as ≠ [] := fun h => hne (List.length_eq_zero_iff.mp (by rw [← mkc_len hal, h]; rfl))
    have emap : (mkc ds as).map (·.1) = ds.map (·.1) := mkc_map (fun d => d.1) hal
    have hh : X.A.in1.handled = none := I.ok.hd hc
    refine next_enum he (en_end hh S hne' he full (fun c hc' => ?_) fun h' x fr ho => ?_)
    · obtain ⟨k, h1, h2⟩ := mkc_mem hc'
      have hk := (List.getElem?_eq_some_iff.mp h1).1
      obtain ⟨xs, hxs⟩ : ∃ xs, xss[k]? = some xs := ⟨_, List.getElem?_eq_getElem (by omega)⟩
      obtain ⟨_, its, rv, ex⟩ := has k _ h2 _ _ h1 hxs
      rw [ex]; simp; rw [← rv.length]; exact hend xs (List.mem_of_getElem? hxs)
    · obtain ⟨o, o1, o2⟩ := ho
      refine ⟨⟨o, x, rfl, o1, o2⟩, rfl, I.turnedL (t' := s.toks) (ch := fpZ e z TI TO ds) (fun b o hb q => ?_) hf⟩
      have := fpZ_cases hb
      exact fr b o this.2.1 (by rw [emap]; exact this.2.2.2.2) q
  self := fun A i s Q E st h => let ⟨⟨_, he⟩, _⟩ := st; wpAny_pyIter_enum he h
theorem sep_new {s : Shared} {ts : List (Addr × Array Value)} (ht : ∀ t ∈ ts, t.1 < s.heap.objs.size) :
    Fp (s.heap.objs.size + ts.length + 3) (s.heap.objs.size + ts.length + 2) (s.heap.objs.size + ts.length) (s.heap.objs.size + ts.length + 1) ((colsOf s.heap.objs.size ts).map fun c => (c.1, c.2.1)) := by
  have hc : ∀ {c : Col}, c ∈ colsOf s.heap.objs.size ts → s.heap.objs.size ≤ c.1 ∧ c.1 < s.heap.objs.size + ts.length ∧ c.2.1 < s.heap.objs.size := fun h => by
    obtain ⟨h1, h2, h3⟩ := colsOf_mem h
    exact ⟨h1, h2, ht _ h3⟩
  have hm : ((colsOf s.heap.objs.size ts).map fun c => ((c.1, c.2.1) : Row)).map (·.1) = (colsOf s.heap.objs.size ts).map (·.1) := by rw [List.map_map]; rfl
  refine ⟨by rw [hm]; exact colsOf_nd _ _, fun d hd => ?_, fun d hd => ?_, Nat.ne_of_lt (by omega), Nat.ne_of_lt (by omega), Nat.ne_of_lt (by omega), Nat.ne_of_gt (by omega), Nat.ne_of_gt (by omega), Nat.ne_of_gt (by omega)⟩
  · obtain ⟨c, h, rfl⟩ := List.mem_map.mp hd
    obtain ⟨h1, h2, h3⟩ := hc h
    exact ⟨Nat.ne_of_lt (Nat.lt_of_lt_of_le h2 (by omega)), Nat.ne_of_lt h2, Nat.ne_of_lt (Nat.lt_of_lt_of_le h2 (by omega)), Nat.ne_of_lt (Nat.lt_of_lt_of_le h2 (by omega))⟩
  · obtain ⟨c, h, rfl⟩ := List.mem_map.mp hd
    obtain ⟨h1, h2, h3⟩ := hc h
    refine ⟨Nat.ne_of_lt (Nat.lt_of_lt_of_le h3 (by omega)), Nat.ne_of_lt (Nat.lt_of_lt_of_le h3 (by omega)), ?_, Nat.ne_of_lt (Nat.lt_of_lt_of_le h3 (by omega))⟩
    rw [hm]
    intro hm2
    obtain ⟨c', h', e⟩ := List.mem_map.mp hm2
    have q := (hc h').1
    have e : c'.1 = c.2.1 := e
    rw [e] at q
    exact absurd h3 (Nat.not_lt.mpr q)
/-- type(*xs) -/
theorem callWith_typeS {X : Cx} {pins : List (Addr × Obj)} {σ : L2.St} {H : Hp} {s : Shared} {T : String} {e : PySem.Expr} {te : TE} {sp pos : Pos} {Q : Value → Shared → Prop} (I : Inv X pins σ H s) (he : PE X e te)
    {k : VK} (h : te σ H k) (hk : ∀ y H1, k y H1 → ∃ a xs, y = V.ref a ∧ (SqT X.K H1 a xs ∨ SqL X.K H1 a xs) ∧ ∀ us s', Inv X pins σ H1 s' → Vals xs us → wpAny (model X.prog X.w) X.A (call (.type T) us) Q X.xe s')
    (hs : starEach [e.Starred sp] X.env = [(true, eval e X.env)] := by rfl) :
    wpAny (model X.prog X.w) X.A (callWith pos (.type T) [] (backTo pos (starEach [e.Starred sp] X.env)) []) Q X.xe s := by
  rw [hs]
  refine W.ks_call (P := fun _ => True) (by rfl) (fun h _ => ⟨.machine, .inr (.inl rfl), fun A Q E s _ q => wpAny_pure q⟩) (W.ks_lone ?_)
  refine wpAny_mono (he.run pins s σ H _ I h) (fun v s1 ⟨y, H1, I1, r1, hq⟩ => ?_) fun _ _ x => x
  obtain ⟨a, xs, e1, hq', q⟩ := hk y H1 hq
  subst e1
  cases r1
  exact StX.star_any I1 hq' fun us s' I' rv => ⟨trivial, q us s' I' rv⟩
def iEnumZ (K : PySem.W.Frag) (te : TE) : TI := fun σ H R => te σ H fun y H1 => ∃ (a : Addr) (ts : List Addr) (xss : List (List V)), y = .ref a ∧ SqT K H1 a (ts.map V.ref) ∧ ts ≠ [] ∧ ts.length ≤ 12 ∧ ts.length = xss.length ∧ (∀ (k : Nat) (t : Addr) (xs : List V), ts[k]? = some t → xss[k]? = some xs → SqT K H1 t xs) ∧ R (ItZ K ts) H1
theorem pi_enumZ {X : Cx} {e : PySem.Expr} {te : TE} {p p2 sp pos pos2 tpos : Pos} {elts : List PySem.Expr} {kk : Nat} (hg : Gl X "enumerate") (hm : X.mg "enumerate" = none) (hgz : Gl X "zip") (hmz : X.mg "zip" = none) (he : PE X e te)
    (hs : starEach [.Call (.Name "zip" p2) [e.Starred sp] [] pos2] X.env = [(false, eval (.Call (.Name "zip" p2) [e.Starred sp] [] pos2) X.env)] := by rfl) (hs2 : starEach [e.Starred sp] X.env = [(true, eval e X.env)] := by rfl) :
    PI X (.Tuple elts kk tpos) (.Call (.Name "enumerate" p) [.Call (.Name "zip" p2) [e.Starred sp] [] pos2] [] pos) (iEnumZ X.K te) := by
  refine ⟨fun pins s σ H R I h => ?_⟩
  refine Call_ (ld_blt I hg hm boot_enumerate (PyProof.Rows.callWith_type1 ?_ hs rfl))
  rw [hs]
  refine Calls.spliced_cons ?_
  refine wpAny_ite_false (by decide) ?_
  refine Call_ (ld_blt I hgz hmz boot_zip (callWith_typeS I he h (fun y H1 hq => ?_) hs2))
  obtain ⟨a, ts, xss, ey, hT, hne, h12, hl, hx, hR⟩ := hq
  refine ⟨a, ts.map V.ref, ey, .inl hT, fun us s1 I1 rv => ?_⟩
  have eus : us = ts.map Value.ref := by
    clear hT hx hR hl h12 hne
    induction ts generalizing us with
    | nil => cases rv; rfl
    | cons t ts ih =>
      cases rv with
      | cons r rr => cases r; rw [ih _ rr]; rfl
  subst eus
  -- what stands in the rows
  obtain ⟨as, hal, has⟩ : ∃ as : List (Array Value), as.length = ts.length ∧ ∀ (k : Nat) (x : Array Value), as[k]? = some x → ∀ t, ts[k]? = some t → s1.heap.IsTuple t x := by
    refine ex_list (P := fun k x => ∀ t, ts[k]? = some t → s1.heap.IsTuple t x) ts.length fun k hk => ?_
    obtain ⟨its, rv, p, _⟩ := I1.tuple (hx k _ _ (List.getElem?_eq_getElem hk) (List.getElem?_eq_getElem (by omega)))
    refine ⟨its.toArray, fun t e1 => ?_⟩
    rw [List.getElem?_eq_getElem hk] at e1
    cases e1; exact p
  have hzl : (ts.zip as).length = ts.length := by rw [List.length_zip]; omega
  have hmap : (ts.zip as).map (fun t => Value.ref t.1) = ts.map Value.ref := by
    rw [show (fun t : Addr × Array Value => Value.ref t.1) = Value.ref ∘ Prod.fst from rfl, ← List.map_map, List.map_fst_zip (by omega)]
  have hit : ∀ t ∈ ts.zip as, s1.heap.IsTuple t.1 t.2 := fun t ht => by
    obtain ⟨k, hk⟩ := List.mem_iff_getElem?.mp ht
    rw [List.getElem?_zip_eq_some] at hk
    exact has k t.2 hk.2 t.1 hk.1
  rw [← hmap]
  refine zip_begins hit (by omega) fun h' st hz hsz up => ?_
  refine wpAny_pure ?_
  refine enum_zip hz fun hen => wpAny_pyIter_enum hen ?_
  have up2 : ∀ {b o}, h'.get? b = some o → (h'.push { cls := .type "enumerate", data := .fields #[.none, .bool false, .ref (s1.heap.objs.size + (ts.zip as).length + 2), rawInt 0, .none, .none] }).get? b = some o := fun e => Heap.get?_push_of_some _ e
  have I2 : Inv X pins σ H1 { s1 with heap := h'.push { cls := .type "enumerate", data := .fields #[.none, .bool false, .ref (s1.heap.objs.size + (ts.zip as).length + 2), rawInt 0, .none, .none] } } := I1.kept (t' := s1.toks) fun b o e => up2 (up b o e)
  have F := sep_new (s := s1) (ts := ts.zip as) fun t ht => by obtain ⟨o, e1, _⟩ := hit t ht; exact Heap.lt_size e1
  have zs : ZS (s1.heap.objs.size + (ts.zip as).length + 2) (s1.heap.objs.size + (ts.zip as).length) (s1.heap.objs.size + (ts.zip as).length + 1) ((colsOf s1.heap.objs.size (ts.zip as)).map fun c => (c.1, c.2.1)) 0 (h'.push { cls := .type "enumerate", data := .fields #[.none, .bool false, .ref (s1.heap.objs.size + (ts.zip as).length + 2), rawInt 0, .none, .none] }) := by
    obtain ⟨_, b3, ⟨os, b4, b5⟩, b6⟩ := st
    refine ⟨⟨_, _, up2 hz, .inl rfl⟩, ?_, ⟨os, up2 b4, by rw [List.length_map]; exact b5⟩, fun d hd => ?_⟩
    · rw [List.map_map]; exact up2 b3
    · obtain ⟨c, hc, rfl⟩ := List.mem_map.mp hd
      obtain ⟨⟨o, q1, q2⟩, _⟩ := b6 c hc
      exact ⟨o, up2 q1, q2⟩
  have ets : (((colsOf s1.heap.objs.size (ts.zip as)).map fun c => ((c.1, c.2.1) : Row)).map (·.2)) = ts := by
    rw [List.map_map]
    have := colsOf_snd (ts.zip as) s1.heap.objs.size
    rw [List.map_fst_zip (by omega)] at this
    exact this
  rw [← hsz] at F
  rw [hsz] at F
  refine ⟨s1.heap.objs.size + (ts.zip as).length + 3, _, _, _, H1, by show Value.ref h'.objs.size = _; rw [hsz], I2, turn_Z F (fun h => hne (by rw [← ets, h]; rfl)) (by rw [List.length_map, colsOf_len]; omega), ⟨⟨.none, by rw [← hsz]; exact hen⟩, zs⟩, fun b hb => ?_, by rw [ets]; exact hR⟩
  have hle : s1.heap.objs.size ≤ b := by
    rcases List.mem_cons.mp hb with q | hb
    · rw [q]; exact Nat.le_add_right_of_le (Nat.le_add_right _ _)
    rcases List.mem_cons.mp hb with q | hb
    · rw [q]; exact Nat.le_add_right_of_le (Nat.le_add_right _ _)
    rcases List.mem_cons.mp hb with q | hb
    · rw [q]; exact Nat.le_add_right _ _
    rcases List.mem_cons.mp hb with q | hb
    · rw [q]; exact Nat.le_add_right_of_le (Nat.le_add_right _ _)
    obtain ⟨d, hd, rfl⟩ := List.mem_map.mp hb
    obtain ⟨c, hc, rfl⟩ := List.mem_map.mp hd
    exact (colsOf_mem hc).1
  exact I1.fpOk hle (I1.hok.fresh hle)
end RwZ

set_option Elab.async false
set_option linter.all false
set_option maxRecDepth 100000
set_option maxHeartbeats 4000000
namespace RW
open PySem PySem.Spec PyProof.Rows L2
open Evl (Ex)
section
variable {K : PySem.W.Frag} {te : TE} {env : Env1} {S S1 : List Dat} {B : Hp}
theorem reps_rows : ∀ {rows : List (List Int)} {vs : List V}, Reps K B vs (rows.map fun r => Dat.tup (r.map Dat.int)) → ∃ ts : List Addr, vs = ts.map V.ref ∧ ts.length = rows.length ∧ ∀ (k : Nat) (t : Addr) (r : List Int), ts[k]? = some t → rows[k]? = some r → SqT K B t (r.map V.int)
  | [], _, .nil => ⟨[], rfl, rfl, fun k t r h => by simp at h⟩
  | r :: rows, _, .cons h rr => by
    cases h with
    | tup h1 q1 =>
      obtain ⟨ts, e1, e2, e3⟩ := reps_rows rr
      have := q1.ints
      subst this
      refine ⟨_ :: ts, by rw [e1]; rfl, by simp [e2], fun k t r' a b => ?_⟩
      cases k with
      | zero => simp at a b; subst a b; exact h1
      | succ k => exact e3 k t r' (by simpa using a) (by simpa using b)
def zipZ (rows : List (List Int)) (m : Nat) : List Dat := (List.range m).map fun i => Dat.tup [.int (i : Nat), .tup ((rows.map fun r => r.getD i 0).map Dat.int)]
/-- enumerate(zip(*rows)) -/
theorem it_enumZ {rows : List (List Int)} {m : Nat} (h : Ev K te env S (.d (.tup (rows.map fun r => Dat.tup (r.map Dat.int)))) S1) (hne : rows ≠ []) (h12 : rows.length ≤ 12) (hm : ∀ r ∈ rows, r.length = m) : IterD K (RwZ.iEnumZ K te) env S G0 (zipZ rows m) S1 := fun B H as σ c g R q => h B H as σ c g _ fun v B1 H1 c1 e1 r1 => by
  cases r1 with
  | tup h1 q1 =>
    obtain ⟨ts, rfl, hl, ht⟩ := reps_rows q1
    have sq : ∀ B2 H2 as2 S2, Ex B1 B2 → Ok K B2 H2 as2 S2 → ∀ (k : Nat) (t : Addr) (r : List Int), ts[k]? = some t → rows[k]? = some r → SqT K H2 t (r.map V.int) := fun B2 H2 as2 S2 e c2 k t r a b => Evl.ex_t c2.ex (Evl.ex_t e (ht k t r a b))
    have sq2 : ∀ B2 H2 as2 S2, Ex B1 B2 → Ok K B2 H2 as2 S2 → ∀ (k : Nat) (t : Addr) (xs : List V), ts[k]? = some t → (rows.map fun r => r.map V.int)[k]? = some xs → SqT K H2 t xs := fun B2 H2 as2 S2 e c2 k t xs a b => by
      rw [List.getElem?_map, Option.map_eq_some_iff] at b
      obtain ⟨r, b, rfl⟩ := b
      exact sq B2 H2 as2 S2 e c2 k t r a b
    refine ⟨_, ts, rows.map fun r => r.map V.int, rfl, Evl.ex_t c1.ex h1, fun z => hne (List.length_eq_zero_iff.mp (by rw [← hl, z]; rfl)), by omega, by rw [List.length_map]; exact hl, sq2 B1 H1 as S1 (Evl.Ex.refl _) c1, q _ B1 H1 c1 e1 ⟨fun B2 H2 as2 S2 i e c2 _ hi => ?_, fun B2 H2 as2 S2 i x H3 e c2 _ hi y => ?_, fun B2 H2 as2 S2 e c2 _ => ?_⟩⟩
    · rw [zipZ, List.length_map, List.length_range] at hi
      refine ⟨rows.map fun r => r.map V.int, by rw [List.length_map]; exact hl, sq2 B2 H2 as2 S2 e c2, fun xs hxs => ?_⟩
      obtain ⟨r, hr, rfl⟩ := List.mem_map.mp hxs
      rw [List.length_map, hm r hr]; exact hi
    · rw [zipZ, List.length_map, List.length_range] at hi
      obtain ⟨T, L, col, rfl, hL, hT, hTL, rfl, hcl, hcol⟩ := y
      have ecol : col = (rows.map fun r => r.getD i 0).map V.int := by
        refine List.ext_getElem? fun k => ?_
        by_cases hk : k < rows.length
        · obtain ⟨t, hkt⟩ : ∃ t, ts[k]? = some t := ⟨_, List.getElem?_eq_getElem (by omega)⟩
          have hkr := List.getElem?_eq_getElem hk
          obtain ⟨x, hx1, hx2⟩ := hcol k t _ hkt (sq B2 H2 as2 S2 e c2 k t _ hkt hkr)
          rw [hx2, List.getElem?_map, List.getElem?_map, hkr]
          rw [List.getElem?_map, Option.map_eq_some_iff] at hx1
          obtain ⟨j, hj, rfl⟩ := hx1
          show some (V.int j) = some (V.int (rows[k].getD i 0))
          rw [List.getD_eq_getElem?_getD, hj]; rfl
        · rw [List.getElem?_eq_none (by omega), List.getElem?_eq_none (by rw [List.length_map, List.length_map]; omega)]
      subst ecol
      have c3 := c2.new (o := .tup ((rows.map fun r => r.getD i 0).map V.int)) hL
      have hT' : (upd H2 L (.tup ((rows.map fun r => r.getD i 0).map V.int))) T = none := by rw [upd_ne hTL]; exact hT
      have c4 := c3.new (o := .tup [.int (i : Nat), .ref L]) hT'
      refine ⟨_, .tup [.int (i : Nat), .tup ((rows.map fun r => r.getD i 0).map Dat.int)], c4, (Evo.new c2 hL).trans (Evo.new c3 hT'), by rw [zipZ, List.getElem?_map, List.getElem?_range hi]; rfl, ?_⟩
      refine .tup (Evl.st_of upd_same) (.cons (.int _) (.cons (.tup (Evl.st_of (xs := (rows.map fun r => r.getD i 0).map V.int) ?_) (reps_ints _)) .nil))
      rw [upd_ne (Ne.symm hTL)]; exact upd_same
    · rw [zipZ, List.length_map, List.length_range]
      refine ⟨rows.map fun r => r.map V.int, by rw [List.length_map]; exact hl, sq2 B2 H2 as2 S2 e c2, fun xs hxs => ?_⟩
      obtain ⟨r, hr, rfl⟩ := List.mem_map.mp hxs
      rw [List.length_map, hm r hr]
end
end RW

set_option Elab.async false
set_option linter.all false
set_option maxRecDepth 100000
set_option maxHeartbeats 4000000
namespace RwZ
open PySem PySem.Spec PyProof.Rows L2
/-- xs.count(y), numbers -/
def rCountI (K : PySem.W.Frag) : V → List V → Hp → VK → Prop := fun x xs H Q => ∃ (a : Addr) (ns : List Int) (y : Int), x = .ref a ∧ xs = [.int y] ∧ SqL K H a (ns.map V.int) ∧ Q (.int (ns.count y : Nat)) H
theorem countU {y : Int} : ∀ {ns : List Int} {us : List Value}, Vals (ns.map V.int) us → List.countP (eqU (.int y)) us = ns.count y
  | [], _, .nil => rfl
  | n :: ns, _, .cons (b := u) r rr => by
    rw [List.countP_cons, countU rr, List.count_cons, eqU_of r rfl]
    rfl
theorem flat_ints : ∀ ns : List Int, (ns.map V.int).all flatV = true
  | [] => rfl
  | n :: ns => by rw [List.map_cons, List.all_cons, flat_ints ns]; rfl
theorem mt_countI {X : Cx} : MtR X "list.count" (rCountI X.K) := by
  intro pins s σ H x xs v us Q I rx rxs h
  obtain ⟨a, ns, y, rfl, rfl, hs, q⟩ := h
  cases rx
  cases rxs with
  | cons r rr =>
    cases rr
    obtain ⟨its, rv, ⟨o, n, h1, h2, h3, h4⟩, _⟩ := I.list hs
    obtain ⟨cls, dd, data, sl⟩ := o
    simp only at h2 h3 h4
    subst h2 h3 h4
    refine call_meets F.slot_list_count ⟨_, h1, rfl⟩ F.entry_list_count (F.args_list_count_2 _ _) (SeqAt.list_countAt a its.toArray n none sl _ (eqU (.int y))) ⟨h1, fun u hu => mem_eqAt r rfl rv (flat_ints ns) u (by simpa using hu), ?_⟩
    refine ⟨.int (ns.count y : Nat), H, I.tok _, ⟨s.toks, ?_⟩, q⟩
    rw [show its.toArray.toList = its from rfl, countU rv]
end RwZ
namespace RW
open PySem PySem.Spec PyProof.Rows L2
section
variable {K : PySem.W.Frag} {to te ta tb : TE} {env : Env1} {S S1 S2 : List Dat} {x : Sl} {ns : List Int} {y : Int}
/-- xs.count(y) -/
theorem ev_countI (ho : Ev K to env S x S1) (hx : SeqL S1 x (ns.map Dat.int)) (h : Ev K te env S1 (.d (.int y)) S1) : Ev K (tBM K "list" (RwZ.rCountI K) to (tCons te tNil)) env S (.d (.int (ns.count y : Nat))) S1 := fun B H as σ c g Q q =>
  ho B H as σ c g _ fun v B1 H1 c1 e1 r1 => by
    obtain ⟨a, ws, rfl, hw, _⟩ := hx.read c1 r1
    refine ⟨.inl ⟨rfl, ws, Evl.sq_of hw⟩, h B1 H1 as σ c1 (g.mono e1.ex) _ fun w B2 H2 c2 e2 r2 => ?_⟩
    cases r2
    obtain ⟨a', vs, e3, hv, rv⟩ := hx.read c2 (r1.mono e2.ex)
    cases e3
    have := rv.ints
    subst this
    exact ⟨_, ns, y, rfl, rfl, Evl.sq_of hv, q _ B2 H2 c2 (e1.trans e2) (.int _)⟩
/-- xs.index(y), y among them -/
theorem ev_indexI (ho : Ev K to env S x S1) (hx : SeqL S1 x (ns.map Dat.int)) (h : Ev K te env S1 (.d (.int y)) S1) (hy : y ∈ ns) : Ev K (tBM K "list" (rIndex K) to (tCons te tNil)) env S (.d (.int (ns.idxOf y : Nat))) S1 := fun B H as σ c g Q q =>
  ho B H as σ c g _ fun v B1 H1 c1 e1 r1 => by
    obtain ⟨a, ws, rfl, hw, _⟩ := hx.read c1 r1
    refine ⟨.inl ⟨rfl, ws, Evl.sq_of hw⟩, h B1 H1 as σ c1 (g.mono e1.ex) _ fun w B2 H2 c2 e2 r2 => ?_⟩
    cases r2
    obtain ⟨a', vs, e3, hv, rv⟩ := hx.read c2 (r1.mono e2.ex)
    cases e3
    have := rv.ints
    subst this
    have hl := List.idxOf_lt_length_of_mem hy
    refine ⟨_, ns.map V.int, .int y, ns.idxOf y, .int y, rfl, rfl, Evl.sq_of hv, rfl, RwZ.flat_ints ns, ?_, by simp [eqV], fun m z' hm hz => ?_, q _ B2 H2 c2 (e1.trans e2) (.int _)⟩
    · rw [List.getElem?_map, List.getElem?_eq_getElem hl, List.getElem_idxOf]; rfl
    · rw [List.getElem?_map, Option.map_eq_some_iff] at hz
      obtain ⟨i, hi, rfl⟩ := hz
      have hml : m < ns.length := by omega
      have hne : i ≠ y := by
        rw [List.getElem?_eq_getElem hml] at hi
        have := List.not_of_lt_findIdx (p := (· == y)) (xs := ns) hm
        simp only [Option.some.injEq] at hi
        rw [hi] at this
        simpa using this
      simp [eqV, hne]
/-- gcd(a, b) -/
theorem cd_gcd {i j : Int} : CallD K rGcd [.d (.int i), .d (.int j)] S (.int ((Nat.gcd i.natAbs j.natAbs : Nat) : Int)) S := fun B H as vs c r Q q => by
  cases r with
  | cons r1 rr =>
    cases rr with
    | cons r2 rr =>
      cases rr; cases r1; cases r2
      exact ⟨i, j, rfl, q _ B H c Evo.refl (.int _)⟩
/-- x.bit_length() -/
theorem ev_bits {i : Int} (h : Ev K to env S (.d (.int i)) S1) : Ev K (tBits to) env S (.d (.int (Builtin.Int.intBits i))) S1 := fun B H as σ c g Q q =>
  h B H as σ c g _ fun v B1 H1 c1 e1 r1 => by
    cases r1
    exact ⟨i, rfl, q _ B1 H1 c1 e1 (.int _)⟩
/-- a >> b -/
theorem o_shr {i : Int} {k : Nat} : Op2 K (fun x y H Q => ∃ (i : Int) (k : Nat), x = .int i ∧ y = .int (k : Int) ∧ Q (.int (i / 2 ^ k)) H) (.d (.int i)) (.d (.int k)) S (.int (i / 2 ^ k)) := fun B H as v w c r1 r2 Q q => by
  cases r1; cases r2
  exact ⟨i, k, rfl, rfl, q _ B H c Evo.refl (.int _)⟩
end
end RW

set_option Elab.async false
set_option linter.all false
set_option maxRecDepth 100000
set_option maxHeartbeats 4000000
namespace RW
open PySem PySem.Spec PyProof.Rows L2
open Evl (Ex)
theorem Reps.del {K : PySem.W.Frag} {B : Hp} : ∀ {vs : List V} {ds : List Dat} (j : Nat), Reps K B vs ds → Reps K B (vs.eraseIdx j) (ds.eraseIdx j)
  | _, _, _, .nil => .nil
  | _, _, 0, .cons h r => r
  | _, _, j + 1, .cons h r => .cons h (Reps.del j r)
section
variable {K : PySem.W.Frag} {n : Nat} {to ti : TE} {env : Env1} {S S1 S2 : List Dat} {ds : List Dat} {P : Post} {u : TS} {k j : Nat} {i : Int}
/-- del xs[i] -/
theorem sp_delL (ho : Ev K to env S (.c k) S1) (hi : Ev K ti env S1 (.d (.int i)) S2) (hs : S2[k]? = some (.lst ds)) (hb : -(2 ^ 63) ≤ i ∧ i < 2 ^ 63) (hj : seqIndex? i ds.length = some j) (q : SP K n u env (S2.set k (.lst (ds.eraseIdx j))) P) :
    SP K n (tSeq (tDelL to ti) u) env S P := fun B0 H0 as0 Bk B H as σ hl f c g D m =>
  ho B H as σ c g _ fun w B1 H1 c1 e1 r1 => hi B1 H1 as σ c1 (g.mono e1.ex) _ fun w2 B2 H2 c2 e2 r2 => by
    obtain ⟨p, hp, rfl⟩ := r1
    cases r2
    obtain ⟨vs, hv, rv⟩ := (c2.cells k p _ hp hs).2.lst
    have e03 := (e1.trans e2).trans (Evo.setc (o := .lst (vs.eraseIdx j)) (List.mem_of_getElem? hp) hv (fun _ z => nomatch z))
    exact ⟨p, vs, i, j, rfl, rfl, hv, hb.1, hb.2, by rw [rv.length]; exact hj, q B0 H0 as0 Bk B2 _ as σ hl (f.step e03) (c2.setc hp (show CellO K B2 (.lst _) (.lst _) from rv.del j)) (g.mono e03.ex) D m⟩
end
section
variable {K : PySem.W.Frag} {n : Nat} {ta tb tc td te : TE} {env : Env1} {S : List Dat} {x y : Sl} {d : Dat} {ds es : List Dat} {P : Post} {u : TS} {i j k l k1 k2 : Nat} {B B0 H H0 : Hp} {as as0 : List Addr} {a : Addr} {o : HO}
theorem evo_know (e : Evo B0 H0 as0 B H) (hb : B a = none) (h0 : Nn H0 a) : Evo B0 H0 as0 (upd B a o) H :=
  ⟨e.ex.trans (Evl.Ex.new hb), e.fr, fun b o hb' nt => by rw [upd_ne (by rintro rfl; exact h0.no hb' nt)]; exact e.gr b o hb' nt, e.tp, e.pr⟩
/-- a, b, c, d = ([..], [..], e, f) -/
theorem sp_quadCC (h : EvN K ta env S ds S) (hv : EvN K tb env S es S) (hc : Ev K tc env S x S) (hd : Ev K td env S y S) (q : SP K n u ((((env.set i (some (.c S.length))).set j (some (.c (S.length + 1)))).set k (some x)).set l (some y)) (S ++ [.lst ds] ++ [.lst es]) P) :
    SP K n (tSeq (tAsg (tTup (tCons ta (tCons tb (tCons tc (tCons td tNil))))) (gTup K 4 (gCons (gName i) (gCons (gName j) (gCons (gName k) (gCons (gName l) gNil)))))) u) env S P := fun B0 H0 as0 Bk B H as σ hl f c g D m =>
  h B H as σ c g _ fun p B1 H1 vs c1 e1 hp hb h1 r1 => hv B1 H1 as σ c1 (g.mono e1.ex) _ fun p2 B2 H2 ws c2 e2 hp2 hb2 h2 r2 => hc B2 H2 as σ c2 (g.mono (e1.trans e2).ex) _ fun w3 B3 H3 c3 e3 r3 => hd B3 H3 as σ c3 (g.mono ((e1.trans e2).trans e3).ex) _ fun w4 B4 H4 c4 e4 r4 => ⟨by show 4 ≤ sizeLine; decide, fun t ht => by
    have hpa : p ∉ as := hp.1
    have hpa2 : p2 ∉ as := hp2.1
    have hpp : p ≠ p2 := by rintro rfl; exact hp2.2.no h1 (fun _ z => nomatch z)
    obtain ⟨a1, a2⟩ := ((e2.trans e3).trans e4).kept hpa h1 hb
    obtain ⟨b1, b2⟩ := (e3.trans e4).kept hpa2 h2 hb2
    have c5 := c4.new (o := .tup [.ref p, .ref p2, w3, w4]) ht
    have e5 := Evo.new (o := .tup [.ref p, .ref p2, w3, w4]) c4 ht
    have e05 := (((e1.trans e2).trans e3).trans e4).trans e5
    have npt : p ≠ t := by rintro rfl; rw [ht] at a1; cases a1
    have npt2 : p2 ≠ t := by rintro rfl; rw [ht] at b1; cases b1
    refine ⟨t, _, rfl, Evl.st_of upd_same, rfl, _, _, rfl, _, _, rfl, _, _, rfl, _, _, rfl, rfl, ?_⟩
    have c6 := c5.push (p := p) (by rw [upd_ne npt]; exact a2) hpa (.ofL (by rw [upd_ne npt]; exact a1) (r1.mono (((e2.trans e3).trans e4).trans e5).ex))
    have c7 := c6.push (p := p2) (by rw [upd_ne npt2]; exact b2) (by simp [hpa2, hpp.symm]) (.ofL (by rw [upd_ne npt2]; exact b1) (r2.mono ((e3.trans e4).trans e5).ex))
    have f6 := (f.step e05).push (f.evo.oldN hp.2)
    refine q B0 H0 as0 Bk _ _ (as ++ [p] ++ [p2]) _ hl (f6.push (f.evo.oldN (e1.oldN hp2.2))) c7 ((((((g.mono e05.ex).grow).grow.set (s := .c S.length) i ?_).set (s := .c (S.length + 1)) j ?_).set k ((r3.mono (e4.trans e5).ex).grow.grow)).set l ((r4.mono e5.ex).grow.grow)) D m
    · exact ⟨p, by rw [← c4.len]; simp, rfl⟩
    · exact ⟨p2, by rw [← c4.len]; simp, rfl⟩⟩
/-- return (xs, ys, e), two lists that were made here and changed -/
theorem sp_retCC (hi : env[i]? = some (some (.c k1))) (hj : env[j]? = some (some (.c k2))) (he : Ev K te env S (.d d) S) (hs1 : S[k1]? = some (.lst ds)) (hs2 : S[k2]? = some (.lst es)) (hne : k1 ≠ k2) (h1 : n ≤ k1) (h2 : n ≤ k2) (q : P.rt (.tup [.lst ds, .lst es, d]) (S.take n)) :
    SP K n (tRet (tTup (tCons (tVar i) (tCons (tVar j) (tCons te tNil))))) env S P := fun B0 H0 as0 Bk B H as σ hl f c g D m => by
  obtain ⟨v1, g1, a, ha, rfl⟩ := g.2 i _ hi
  obtain ⟨v2, g2, b, hb, rfl⟩ := g.2 j _ hj
  refine ⟨.ref a, g1, .ref b, g2, he B H as σ c g _ fun w B1 H1 c1 e1 r1 => ⟨by show 3 ≤ sizeLine; decide, fun t ht => ?_⟩⟩
  obtain ⟨ka, qa⟩ := c1.cells k1 a _ ha hs1
  obtain ⟨vs, va, ra⟩ := qa.lst
  obtain ⟨kb, qb⟩ := c1.cells k2 b _ hb hs2
  obtain ⟨ws, vb, rb⟩ := qb.lst
  have nat_ : a ≠ t := by rintro rfl; rw [ht] at va; cases va
  have nbt : b ≠ t := by rintro rfl; rw [ht] at vb; cases vb
  have nab : a ≠ b := fun z => hne (by
    subst z
    exact (List.getElem?_inj (List.getElem?_eq_some_iff.mp ha).1 c1.nd).mp (ha.trans hb.symm))
  have c2 := c1.new (o := .tup [.ref a, .ref b, w]) ht
  have e2 := Evo.new (o := .tup [.ref a, .ref b, w]) c1 ht
  have f2 := (f.step e1).step e2
  have c3 := c2.upto as0.length
  rw [f2.base] at c3
  subst hl
  have hin : ∀ {k : Nat} {a : Addr}, as[k]? = some a → as0.length ≤ k → a ∈ as.drop as0.length := fun {k a} h hk => by
    refine List.mem_of_getElem? (i := k - as0.length) ?_
    rw [List.getElem?_drop, show as0.length + (k - as0.length) = k by omega]
    exact h
  have hout : ∀ {a : Addr}, a ∈ as.drop as0.length → a ∉ as0 := fun {a} hd hm => by
    have nd := c1.nd
    rw [← List.take_append_drop as0.length as, f2.base] at nd
    exact (List.nodup_append.mp nd).2.2 a hm a hd rfl
  have da := hin ha h1
  have db := hin hb h2
  have ta' : upd B1 t (.tup [.ref a, .ref b, w]) a = none := by rw [upd_ne nat_]; exact ka
  have ha' : upd H1 t (.tup [.ref a, .ref b, w]) a = some (.lst vs) := by rw [upd_ne nat_]; exact va
  have c4 := c3.know ha' ta' (hout da)
  have tb' : upd (upd B1 t (.tup [.ref a, .ref b, w])) a (.lst vs) b = none := by rw [upd_ne nab.symm, upd_ne nbt]; exact kb
  have hb' : upd H1 t (.tup [.ref a, .ref b, w]) b = some (.lst ws) := by rw [upd_ne nbt]; exact vb
  have c5 := c4.know hb' tb' (hout db)
  have ev := evo_know (o := .lst ws) (evo_know (o := .lst vs) f2.evo ta' (f2.loc a da)) tb' (f2.loc b db)
  have x1 : Ex B1 (upd B1 t (.tup [.ref a, .ref b, w])) := e2.ex
  have x2 := x1.trans ((Evl.Ex.new (o := .lst vs) ta').trans (Evl.Ex.new (o := .lst ws) tb'))
  have ht2 : upd (upd (upd B1 t (.tup [.ref a, .ref b, w])) a (.lst vs)) b (.lst ws) t = some (.tup [.ref a, .ref b, w]) := by rw [upd_ne nbt.symm, upd_ne nat_.symm, upd_same]
  have ha2 : upd (upd (upd B1 t (.tup [.ref a, .ref b, w])) a (.lst vs)) b (.lst ws) a = some (.lst vs) := by rw [upd_ne nab, upd_same]
  exact m.rt (.ref t) _ _ _ _ c5 ev (.tup (Evl.st_of ht2) (.cons (.lst ha2 (ra.mono x2)) (.cons (.lst upd_same (rb.mono x2)) (.cons (r1.mono x2) .nil)))) q
end
end RW

set_option Elab.async false
set_option linter.all false
set_option maxRecDepth 100000
set_option maxHeartbeats 4000000
namespace RW
open PySem PySem.Spec PyProof.Rows L2
open Evl (Ex)
/-! ### objects that hold lists which change -/
section
variable {K : PySem.W.Frag} {n : Nat} {te ta tb tc to ti tv : TE} {tA : TA} {env env' : Env1} {S S1 S2 S3 : List Dat} {x y z : Sl} {d e : Dat} {ds es ds' : List Dat} {P P' : Post} {t u : TS}
  {B B0 B1 B2 B' Bk H H0 H1 H2 H' : Hp} {as as0 as1 : List Addr} {D : Ends} {σ : L2.St} {i j k : Nat} {p : Addr} {E : XK}
/-- the changed things that env names lie ahead of m -/
def EnvLt (m : Nat) : Env1 → Prop
  | [] => True
  | none :: e => EnvLt m e
  | some (.d _) :: e => EnvLt m e
  | some (.c k) :: e => k < m ∧ EnvLt m e
theorem EnvLt.get {m : Nat} : ∀ {env : Env1} {i k : Nat}, EnvLt m env → env[i]? = some (some (.c k)) → k < m
  | [], _, _, _, h => by simp at h
  | o :: e, 0, k, h, q => by
    simp at q; subst q
    exact h.1
  | none :: e, i + 1, k, h, q => EnvLt.get (env := e) (i := i) h (by simpa using q)
  | some (.d _) :: e, i + 1, k, h, q => EnvLt.get (env := e) (i := i) h (by simpa using q)
  | some (.c _) :: e, i + 1, k, h, q => EnvLt.get (env := e) (i := i) h.2 (by simpa using q)
/-- the last changed thing, a list that was made here, is left as it is from now on -/
theorem sp_freeze (hn : n ≤ S.length) (hi : env[i]? = some (some (.c S.length))) (hl : EnvLt S.length (env.set i none)) (q : SP K n t (env.set i (some (.d (.lst ds)))) S P) : SP K n t env (S ++ [.lst ds]) P := fun B0 H0 as0 Bk B H as σ hl0 f c g D m => by
  have hk : (S ++ [Dat.lst ds])[S.length]? = some (.lst ds) := by simp
  have hlen : as.length = S.length + 1 := by have := c.len; simpa using this
  obtain ⟨a, ha⟩ : ∃ a, as[S.length]? = some a := ⟨_, List.getElem?_eq_getElem (by omega)⟩
  obtain ⟨hb, q0⟩ := c.cells S.length a _ ha hk
  obtain ⟨vs, hv, rv⟩ := q0.lst
  have c1 := c.upto S.length
  rw [show (S ++ [Dat.lst ds]).take S.length = S from List.take_left ..] at c1
  have has : as = as.take S.length ++ [a] := by
    have h1 := List.take_append_drop S.length as
    have h2 : as.drop S.length = [a] := by
      apply List.ext_getElem?
      intro m
      rw [List.getElem?_drop]
      cases m with
      | zero => rw [Nat.add_zero, ha]; rfl
      | succ m => rw [List.getElem?_eq_none (by omega)]; simp
    rw [h2] at h1
    exact h1.symm
  have hna : a ∉ as.take S.length := fun hm => by
    have nd := c.nd
    rw [has] at nd
    exact (List.nodup_append.mp nd).2.2 a hm a (List.mem_singleton.mpr rfl) rfl
  have hd : a ∈ as.drop as0.length := by
    refine List.mem_of_getElem? (i := S.length - as0.length) ?_
    rw [List.getElem?_drop, show as0.length + (S.length - as0.length) = S.length by omega]
    exact ha
  have h0 := f.loc a hd
  have f1 : Fr B0 H0 as0 Bk (upd B a (.lst vs)) H (as.take S.length) := ⟨f.kn.trans (Ex.new hb), by rw [List.take_take, Nat.min_eq_left (by omega)]; exact f.base, ⟨f.evo.ex.trans (Ex.new hb), f.evo.fr, fun b o hb' nt => by rw [upd_ne (by rintro rfl; exact h0.no hb' nt)]; exact f.evo.gr b o hb' nt, f.evo.tp, f.evo.pr⟩, fun b hb2 => f.loc b (by
      rw [List.drop_take] at hb2
      exact List.mem_of_mem_take hb2)⟩
  have c2 := c1.know hv hb hna
  refine q B0 H0 as0 Bk _ H _ σ hl0 f1 c2 ⟨by rw [List.length_set]; exact g.1, fun r s hr => ?_⟩ D m
  by_cases e : i = r
  · subst e
    rw [List.getElem?_set_self (List.getElem?_eq_some_iff.mp hi).1] at hr
    cases hr
    obtain ⟨v, h1, a2, h2, rfl⟩ := g.2 i _ hi
    rw [ha] at h2; cases h2
    exact ⟨_, h1, .lst upd_same (rv.mono (Ex.new hb))⟩
  · have hr2 : (env.set i none)[r]? = some (some s) := by rw [List.getElem?_set_ne e] at hr ⊢; exact hr
    rw [List.getElem?_set_ne e] at hr
    obtain ⟨v, h1, h2⟩ := g.2 r s hr
    cases s with
    | d x => exact ⟨v, h1, Rep.mono (Ex.new hb) h2⟩
    | c k =>
      obtain ⟨b, h3, h4⟩ := h2
      exact ⟨v, h1, b, by rw [List.getElem?_take_of_lt (hl.get hr2)]; exact h3, h4⟩
/-- self.f = a new list, which will be changed -/
theorem sp_fldL {C : Addr} {fs : List (Str × Dat)} {f : Str} (h : EvN K tv env S ds S1) (hi : env[i]? = some (some (.c k))) (hs : S1[k]? = some (.ins C fs)) (cl : Cls K C) (na : NoAttr K C f) (hl : fs.length < 1000)
    (q : ∀ p : Addr, SP K n u env (S1.set k (.ins C (putFD f (.adr p) fs)) ++ [.lsa p ds]) P) : SP K n (tSeq (sFld K (tVar i) tv f) u) env S P := fun B0 H0 as0 Bk B H as σ hl0 f0 c g D m =>
  h B H as σ c g _ fun a B1 H1 ws c1 e1 hp hb h1 r1 => by
    obtain ⟨v, hv1, x, hx, rfl⟩ := g.2 i _ hi
    obtain ⟨dx, vs, hv, rv⟩ := (c1.cells k x _ hx hs).2.ins
    have hkl : k < S1.length := (List.getElem?_eq_some_iff.mp hs).1
    have hne : a ≠ x := fun z => hp.1 (z ▸ List.mem_of_getElem? hx)
    have c2 := c1.push (s0 := .lsa a ds) hb hp.1 ⟨_, h1, r1⟩ (fun _ _ _ _ _ _ z => nomatch z) (fun P z => Option.some.inj z)
    have hx2 : (as ++ [a])[k]? = some x := by rw [List.getElem?_append_left (List.getElem?_eq_some_iff.mp hx).1]; exact hx
    have hs2 : (S1 ++ [Dat.lsa a ds])[k]? = some (.ins C fs) := by rw [List.getElem?_append_left hkl]; exact hs
    have f2 : Fr B0 H0 as0 Bk B1 H1 (as ++ [a]) := (f0.step e1).push (f0.evo.oldN hp.2)
    have e3 : Evo B1 H1 (as ++ [a]) B1 (upd H1 x (.ins C dx (putF f (.ref a) vs))) := Evo.setc (List.mem_of_getElem? hx2) hv (fun _ z => nomatch z)
    have c3 := c2.setc (o := .ins C dx (putF f (.ref a) vs)) hx2 (show CellO K B1 (.ins C dx _) (.ins C (putFD f (.adr a) fs)) from ⟨rfl, RepF.put (.adr a) rv⟩) (c2.lkput hx2 hs2 hv (.adr a))
    rw [List.set_append_left _ _ hkl] at c3
    exact ⟨.ref x, hv1, x, C, dx, vs, rfl, hv, cl, na, by rw [rv.length]; exact hl, q a B0 H0 as0 Bk B1 _ _ σ hl0 (f2.step e3) c3 ((g.mono e1.ex).grow) D m⟩
theorem sp_fldL1 {C : Addr} {fs : List (Str × Dat)} {f : Str} (h : EvN K tv env S ds S1) (hi : env[i]? = some (some (.c k))) (hs : S1[k]? = some (.ins C fs)) (cl : Cls K C) (na : NoAttr K C f) (hl : fs.length < 1000)
    (q : ∀ p : Addr, P.nx env (S1.set k (.ins C (putFD f (.adr p) fs)) ++ [.lsa p ds])) : SP K n (sFld K (tVar i) tv f) env S P := fun B0 H0 as0 Bk B H as σ hl0 f0 c g D m =>
  h B H as σ c g _ fun a B1 H1 ws c1 e1 hp hb h1 r1 => by
    obtain ⟨v, hv1, x, hx, rfl⟩ := g.2 i _ hi
    obtain ⟨dx, vs, hv, rv⟩ := (c1.cells k x _ hx hs).2.ins
    have hkl : k < S1.length := (List.getElem?_eq_some_iff.mp hs).1
    have hne : a ≠ x := fun z => hp.1 (z ▸ List.mem_of_getElem? hx)
    have c2 := c1.push (s0 := .lsa a ds) hb hp.1 ⟨_, h1, r1⟩ (fun _ _ _ _ _ _ z => nomatch z) (fun P z => Option.some.inj z)
    have hx2 : (as ++ [a])[k]? = some x := by rw [List.getElem?_append_left (List.getElem?_eq_some_iff.mp hx).1]; exact hx
    have hs2 : (S1 ++ [Dat.lsa a ds])[k]? = some (.ins C fs) := by rw [List.getElem?_append_left hkl]; exact hs
    have f2 : Fr B0 H0 as0 Bk B1 H1 (as ++ [a]) := (f0.step e1).push (f0.evo.oldN hp.2)
    have e3 : Evo B1 H1 (as ++ [a]) B1 (upd H1 x (.ins C dx (putF f (.ref a) vs))) := Evo.setc (List.mem_of_getElem? hx2) hv (fun _ z => nomatch z)
    have c3 := c2.setc (o := .ins C dx (putF f (.ref a) vs)) hx2 (show CellO K B1 (.ins C dx _) (.ins C (putFD f (.adr a) fs)) from ⟨rfl, RepF.put (.adr a) rv⟩) (c2.lkput hx2 hs2 hv (.adr a))
    rw [List.set_append_left _ _ hkl] at c3
    exact ⟨.ref x, hv1, x, C, dx, vs, rfl, hv, cl, na, by rw [rv.length]; exact hl, m.nx _ _ B1 _ _ σ (f2.step e3) c3 ((g.mono e1.ex).grow) (q a)⟩
/-- what stands at a known address, the j-th changed thing -/
theorem ev_la (h : Ev K te env S (.d (.adr p)) S1) (hs : S1[j]? = some d) (hd : adrOf d = some p) : Ev K te env S (.c j) S1 := fun B H as σ c g Q q =>
  h B H as σ c g _ fun v B1 H1 c1 e1 r1 => q v B1 H1 c1 e1 (by
    cases r1
    exact ⟨p, c1.tb j d p hs hd, rfl⟩)
theorem Ok.forget (c : Ok K B H as S) (hs : S[j]? = some (.lsa p ds)) : Ok K B H as (S.set j (.lst ds)) where
  ex := c.ex
  len := by rw [List.length_set]; exact c.len
  cells := fun k a s h1 h2 => by
    by_cases e : j = k
    · subst e
      rw [List.getElem?_set_self (List.getElem?_eq_some_iff.mp hs).1] at h2
      cases h2
      obtain ⟨q1, q2⟩ := c.cells j a _ h1 hs
      obtain ⟨vs, hv, rv⟩ := q2.lsa
      exact ⟨q1, _, hv, rv⟩
    · rw [List.getElem?_set_ne e] at h2
      exact c.cells k a s h1 h2
  nd := c.nd
  lk := fun k a s o h1 h2 h3 => by
    by_cases e : j = k
    · subst e
      rw [List.getElem?_set_self (List.getElem?_eq_some_iff.mp hs).1] at h2
      cases h2
      exact fun _ _ _ _ z => nomatch z
    · rw [List.getElem?_set_ne e] at h2
      exact c.lk k a s o h1 h2 h3
  ntb := c.ntb
  tb := fun k d P h hd => by
    by_cases e : j = k
    · subst e
      rw [List.getElem?_set_self (List.getElem?_eq_some_iff.mp hs).1] at h
      cases h
      cases hd
    · rw [List.getElem?_set_ne e] at h
      exact c.tb k d P h hd
theorem Ok.recall (c : Ok K B H as S) (hs : S[j]? = some (.lst ds)) (hp : as[j]? = some p) : Ok K B H as (S.set j (.lsa p ds)) where
  ex := c.ex
  len := by rw [List.length_set]; exact c.len
  cells := fun k a s h1 h2 => by
    by_cases e : j = k
    · subst e
      rw [List.getElem?_set_self (List.getElem?_eq_some_iff.mp hs).1] at h2
      cases h2
      obtain ⟨q1, q2⟩ := c.cells j a _ h1 hs
      obtain ⟨vs, hv, rv⟩ := q2.lst
      exact ⟨q1, _, hv, rv⟩
    · rw [List.getElem?_set_ne e] at h2
      exact c.cells k a s h1 h2
  nd := c.nd
  lk := fun k a s o h1 h2 h3 => by
    by_cases e : j = k
    · subst e
      rw [List.getElem?_set_self (List.getElem?_eq_some_iff.mp hs).1] at h2
      cases h2
      exact fun _ _ _ _ z => nomatch z
    · rw [List.getElem?_set_ne e] at h2
      exact c.lk k a s o h1 h2 h3
  ntb := c.ntb
  tb := fun k d P h hd => by
    by_cases e : j = k
    · subst e
      rw [List.getElem?_set_self (List.getElem?_eq_some_iff.mp hs).1] at h
      cases h
      cases hd
      exact hp
    · rw [List.getElem?_set_ne e] at h
      exact c.tb k d P h hd
theorem set_back {S : List Dat} {d e : Dat} (hs : S[j]? = some d) : (S.set j e).set j d = S := by
  rw [List.set_set]
  obtain ⟨hl, q⟩ := List.getElem?_eq_some_iff.mp hs
  rw [← q]; exact List.set_getElem_self hl
/-- what holds of a list that is changed, where its address is known -/
theorem ev_forget (hs : S[j]? = some (.lsa p ds)) (h : Ev K te env (S.set j (.lst ds)) x S1) (hj : S1[j]? = some (.lst ds')) : Ev K te env S x (S1.set j (.lsa p ds')) := fun B H as σ c g Q q =>
  h B H as σ (c.forget hs) g _ fun v B1 H1 c1 e1 r1 => q v B1 H1 (c1.recall hj (c.tb j _ p hs rfl)) e1 r1
theorem sp_forget (hj : j < n) (hs : S[j]? = some (.lsa p ds)) (h : SP K n t env (S.set j (.lst ds)) { nx := fun env' T => ∃ ds', T[j]? = some (.lst ds') ∧ P.nx env' (T.set j (.lsa p ds')), rt := fun r T => ∃ ds', T[j]? = some (.lst ds') ∧ P.rt r (T.set j (.lsa p ds')), bk := fun env' T => ∃ ds', T[j]? = some (.lst ds') ∧ P.bk env' (T.set j (.lsa p ds')), ct := fun env' T => ∃ ds', T[j]? = some (.lst ds') ∧ P.ct env' (T.set j (.lsa p ds')) }) :
    SP K n t env S P := fun B0 H0 as0 Bk B H as σ hl0 f c g D m => by
  have hp : as[j]? = some p := c.tb j _ p hs rfl
  have h0 : as0[j]? = some p := by
    rw [← f.base, List.getElem?_take_of_lt (by omega)]; exact hp
  have at' : ∀ {as' : List Addr} {B' H'}, Fr B0 H0 as0 Bk B' H' as' → as'[j]? = some p := fun {as' B' H'} f' => by
    have := f'.base
    rw [← this, List.getElem?_take_of_lt (by omega)] at h0
    exact h0
  exact h B0 H0 as0 Bk B H as σ hl0 f (c.forget hs) g D ⟨fun env' T B' H' as' σ' f' c' g' ⟨ds', h1, h2⟩ => m.nx env' _ B' H' as' σ' f' (c'.recall h1 (at' f')) g' h2, fun v r T B' H' c' e' r1 ⟨ds', h1, h2⟩ => m.rt v r _ B' H' (c'.recall h1 h0) e' r1 h2,
    fun env' T B' H' as' σ' f' c' g' ⟨ds', h1, h2⟩ => m.bk env' _ B' H' as' σ' f' (c'.recall h1 (at' f')) g' h2, fun env' T B' H' as' σ' f' c' g' ⟨ds', h1, h2⟩ => m.ct env' _ B' H' as' σ' f' (c'.recall h1 (at' f')) g' h2, trivial⟩
/-! ### a def that hands new changed things to its caller -/
def SpC (K : PySem.W.Frag) (G : List Sl → List Dat → (Sl → List Dat → Prop) → Prop) : Sp := fun vs H Q _ => ∃ B as S ss post, Ok K B H as S ∧ RepSs K B as vs ss ∧ G ss S post ∧
  ∀ v r B' H' as' S', as'.take as.length = as → (∀ a ∈ as'.drop as.length, Nn H a) → Ok K B' H' as' S' → Evo B H as B' H' → RepS K B' as' v r → post r S' → Q v H'
theorem spc_len {G : List Sl → List Dat → (Sl → List Dat → Prop) → Prop} {k : Nat} (h : ∀ ss S post, G ss S post → ss.length = k) : ∀ vs H Q E, SpC K G vs H Q E → vs.length = k := fun vs H Q E q => by
  obtain ⟨B, as, S, ss, post, c, rs, g, _⟩ := q
  rw [rs.length]
  exact h ss S post g
def SPR (K : PySem.W.Frag) (n : Nat) (ts : TS) (env : Env1) (S : List Dat) (post : Sl → List Dat → Prop) : Prop :=
  ∀ B0 H0 as0 Bk B H as σ, as0.length = n → Fr B0 H0 as0 Bk B H as → Ok K B H as S → EnvR K B as σ env → ∀ D : Ends, (∀ v r B' H' as' S', Fr B0 H0 as0 Bk B' H' as' → Ok K B' H' as' S' → RepS K B' as' v r → post r S' → D.rt v H') →
    (∀ σ' B' H' as' S', Fr B0 H0 as0 Bk B' H' as' → Ok K B' H' as' S' → post (.d .non) S' → D.nx σ' H') → ts D σ H
theorem spr_seq {post : Sl → List Dat → Prop} {nx : Env1 → List Dat → Prop} (h : SP K n t env S { nx := nx }) (k : ∀ env' S', nx env' S' → SPR K n u env' S' post) : SPR K n (tSeq t u) env S post := fun B0 H0 as0 Bk B H as σ hl f c g D r1 r2 =>
  h B0 H0 as0 Bk B H as σ hl f c g { D with nx := u D } ⟨fun env' S' B' H' as' σ' f' c' g' p => k env' S' p B0 H0 as0 Bk B' H' as' σ' hl f' c' g' D r1 r2, fun _ _ _ _ _ _ _ _ p => p.elim, fun _ _ _ _ _ _ _ _ _ p => p.elim, fun _ _ _ _ _ _ _ _ _ p => p.elim, trivial⟩
theorem spr_ret {post : Sl → List Dat → Prop} (h : Ev K te env S x S1) (hp : post x S1) : SPR K n (tRet te) env S post := fun B0 H0 as0 Bk B H as σ hl f c g D r1 r2 =>
  h B H as σ c g _ fun v B1 H1 c1 e1 q1 => r1 v x B1 H1 as S1 (f.step e1) c1 q1 hp
theorem spr_end {post : Sl → List Dat → Prop} (h : SP K n t env S { nx := fun _ T => post (.d .non) T }) : SPR K n t env S post := fun B0 H0 as0 Bk B H as σ hl f c g D r1 r2 =>
  h B0 H0 as0 Bk B H as σ hl f c g D ⟨fun env' S' B' H' as' σ' f' c' g' p => r2 σ' B' H' as' S' f' c' p, fun _ _ _ _ _ _ _ _ p => p.elim, fun _ _ _ _ _ _ _ _ _ p => p.elim, fun _ _ _ _ _ _ _ _ _ p => p.elim, trivial⟩
theorem sp_bodyC {G : List Sl → List Dat → (Sl → List Dat → Prop) → Prop} {N : List Str} {vs : List V} {Q : VK} (h : SpC K G vs H Q E)
    (k : ∀ ss S post, G ss S post → SPR K S.length t (ss.map some ++ List.replicate (N.length - ss.length) none) S post) : t { nx := fun _ H' => Q .non H', rt := Q } (start N vs) H := by
  obtain ⟨B, as, S, ss, post, c, rs, g, q⟩ := h
  refine k ss S post g B H as B B H as _ c.len ⟨Ex.refl B, List.take_length, Evo.refl, fun a ha => by rw [List.drop_length] at ha; cases ha⟩ c (EnvR.start rs) _ (fun v r B' H' as' S' f' c' r1 hp => ?_) fun σ' B' H' as' S' f' c' hp => ?_
  · exact q v r B' H' as' S' f'.base f'.loc c' f'.evo r1 hp
  · exact q .non (.d .non) B' H' as' S' f'.base f'.loc c' f'.evo .non hp
theorem Fr.ext {as' : List Addr} (f : Fr B0 H0 as0 Bk B H as) (e : Evo B H as B' H') (h1 : as'.take as.length = as) (h2 : ∀ a ∈ as'.drop as.length, Nn H a) : Fr B0 H0 as0 Bk B' H' as' where
  kn := f.kn.trans e.ex
  base := by
    have := f.base
    rw [← h1, List.take_take, Nat.min_eq_left f.len] at this
    exact this
  evo := (f.step e).evo
  loc := fun a ha => by
    rw [← List.take_append_drop as.length as', h1, List.drop_append_of_le_length f.len] at ha
    rcases List.mem_append.mp ha with z | z
    · exact f.loc a z
    · exact f.evo.oldN (h2 a z)
theorem EnvR.ext {as' : List Addr} (g : EnvR K B as σ env) (h1 : as'.take as.length = as) : EnvR K B as' σ env := by
  rw [← List.take_append_drop as.length as', h1]
  exact g.grow
/-- x = f(..), f hands new changed things -/
theorem sp_setCallC {G : List Sl → List Dat → (Sl → List Dat → Prop) → Prop} {ss : List Sl} {post : Sl → List Dat → Prop} (h : EvA K tA env S ss S1) (hg : G ss S1 post) (q : ∀ r S2, post r S2 → SP K n u (env.set i (some r)) S2 P) :
    SP K n (tSeq (tAsg (tCall (SpC K G) [] E tA) (gName i)) u) env S P := fun B0 H0 as0 Bk B H as σ hl0 f0 c g D m =>
  h B H as σ c g _ fun vs B1 H1 c1 e1 r1 => ⟨B1, as, S1, ss, post, c1, by rw [List.append_nil]; exact r1, hg, fun v r B2 H2 as2 S2 h1 h2 c2 e2 r2 hp =>
    q r S2 hp B0 H0 as0 Bk B2 H2 as2 _ hl0 ((f0.step e1).ext e2 h1 h2) c2 ((((g.mono e1.ex).ext h1).mono e2.ex).set i r2) D m⟩
/-- x = C(..), an instance that will be changed, whose __init__ makes further things that will be changed -/
theorem sp_setMkC {C : Addr} {G : List Sl → List Dat → (Sl → List Dat → Prop) → Prop} {ss : List Sl} {post : Sl → List Dat → Prop} (h : EvA K tA env S ss S1) (hg : G (.c S1.length :: ss) (S1 ++ [.ins C []]) post) (hn : ∀ r S2, post r S2 → r = .d .non)
    (q : ∀ S2, post (.d .non) S2 → SP K n u (env.set i (some (.c S1.length))) S2 P) : SP K n (tSeq (tAsg (tMake C (SpC K G) [] E tA) (gName i)) u) env S P := fun B0 H0 as0 Bk B H as σ hl0 f0 c g D m =>
  h B H as σ c g _ fun vs B1 H1 c1 e1 r1 x dx hx hdx hne => by
    have hB := c1.Bnone hx
    have hxa := c1.fresh hx
    have hdB := c1.Bnone hdx
    have hda := c1.fresh hdx
    have c2 : Ok K B1 (upd (upd H1 dx (.own x)) x (.ins C dx [])) as S1 := (c1.other hdB hda).other hB hxa
    have e2 : Evo B1 H1 as B1 (upd (upd H1 dx (.own x)) x (.ins C dx [])) := (Evo.refl.other (.of hdx)).other (.of hx)
    have c3 : Ok K B1 (upd (upd H1 dx (.own x)) x (.ins C dx [])) (as ++ [x]) (S1 ++ [.ins C []]) := c2.push hB hxa (CellAt.ofI upd_same .nil) (fun _ _ _ _ _ _ e q _ => by cases e; cases q)
    have grow : ∀ {vs : List V} {ss : List Sl}, RepSs K B1 as vs ss → RepSs K B1 (as ++ [x]) vs ss := by
      intro vs ss h
      induction h with
      | nil => exact .nil
      | cons h _ ih => exact .cons h.grow ih
    have r3 : RepSs K B1 (as ++ [x]) (.ref x :: (vs ++ [])) (.c S1.length :: ss) := by
      refine .cons ⟨x, by rw [← c1.len]; simp, rfl⟩ ?_
      rw [List.append_nil]
      exact grow r1
    refine ⟨B1, as ++ [x], _, _, post, c3, r3, hg, fun v r B4 H4 as4 S4 h1 h2 c4 e4 r4 hp => ?_⟩
    have er := hn r S4 hp
    subst er
    refine ⟨by cases r4; rfl, ?_⟩
    have f3 : Fr B0 H0 as0 Bk B1 _ (as ++ [x]) := ((f0.step e1).step e2).push ((f0.step e1).evo.old hx)
    have hxl : as4[S1.length]? = some x := by
      have hl : S1.length < (as ++ [x]).length := by rw [List.length_append, c1.len]; simp
      rw [← List.take_append_drop (as ++ [x]).length as4, h1, List.getElem?_append_left hl, ← c1.len]
      simp
    exact q S4 hp B0 H0 as0 Bk B4 H4 as4 _ hl0 (f3.ext e4 h1 h2) c4 (((((g.mono e1.ex).grow).ext h1).mono e4.ex).set i ⟨x, hxl, rfl⟩) D m
/-- xs.append(e), xs[i] = e, of a list whose address is known -/
theorem ev_appendA (ho : Ev K to env S (.c k) S1) (h : Ev K te env S1 (.d d) S2) (h1 : LCell S1 k es) (hs : S2[k]? = some (.lsa p ds)) (hl : ds.length < sizeLine) : Ev K (tBM K "list" rAppend to (tCons te tNil)) env S (.d .non) (S2.set k (.lsa p (ds ++ [d]))) := fun B H as σ c g Q q =>
  ho B H as σ c g _ fun v B1 H1 c1 e1 r1 => by
    obtain ⟨a, ha, rfl⟩ := r1
    obtain ⟨_, ws, hw, rw'⟩ := c1.lcell ha h1
    refine ⟨.inl ⟨rfl, ws, Evl.sq_of hw⟩, h B1 H1 as σ c1 (g.mono e1.ex) _ fun v B2 H2 c2 e2 r2 => ?_⟩
    obtain ⟨vs, hv, rv⟩ := (c2.cells k a _ ha hs).2.lsa
    have hap : a = p := by
      have := c2.tb k _ p hs rfl
      rw [ha] at this
      exact Option.some.inj this
    refine ⟨a, vs, v, rfl, rfl, hv, by rw [rv.length]; exact hl, q .non B2 _ (c2.setc ha (show CellO K B2 (.lst _) (.lsa _ _) from rv.append (.cons r2 .nil)) (fun _ _ _ _ z => nomatch z) (fun P z => by rw [hap]; exact Option.some.inj z)) ((e1.trans e2).trans (Evo.setc (List.mem_of_getElem? ha) hv (fun _ z => nomatch z))) .non⟩
theorem sp_setitemA1 {iv : Int} (h : Ev K te env S (.d d) S1) (ho : Ev K to env S1 (.c k) S2) (hi : Ev K ti env S2 (.d (.int iv)) S3) (hs : S3[k]? = some (.lsa p ds)) (hj : ixN ds.length iv = some j) (q : P.nx env (S3.set k (.lsa p (ds.set j d)))) :
    SP K n (tAsg te (gSub to ti rSetL)) env S P := fun B0 H0 as0 Bk B H as σ hl f c g D m =>
  h B H as σ c g _ fun v B1 H1 c1 e1 r1 => ho B1 H1 as σ c1 (g.mono e1.ex) _ fun w B2 H2 c2 e2 r2 => hi B2 H2 as σ c2 (g.mono (e1.trans e2).ex) _ fun w3 B3 H3 c3 e3 r3 => by
    obtain ⟨a, ha, rfl⟩ := r2
    cases r3
    obtain ⟨vs, hv, rv⟩ := (c3.cells k a _ ha hs).2.lsa
    have hap : a = p := by
      have := c3.tb k _ p hs rfl
      rw [ha] at this
      exact Option.some.inj this
    have e03 := ((e1.trans e2).trans e3).trans (Evo.setc (o := .lst (vs.set j v)) (List.mem_of_getElem? ha) hv (fun _ z => nomatch z))
    exact ⟨a, vs, iv, j, rfl, rfl, hv, by rw [rv.length]; exact hj, m.nx _ _ B3 _ as σ (f.step e03) (c3.setc ha (show CellO K B3 (.lst _) (.lsa _ _) from Reps.set j (Rep.mono (e2.trans e3).ex r1) rv) (fun _ _ _ _ z => nomatch z) (fun P z => by rw [hap]; exact Option.some.inj z)) (g.mono e03.ex) q⟩
end
end RW

set_option Elab.async false
set_option linter.all false
set_option maxRecDepth 100000
set_option maxHeartbeats 4000000
namespace RW
open PySem PySem.Spec PyProof.Rows L2
open Evl (Ex)
/-! ### xs[i] += e -/
def rGetL (K : PySem.W.Frag) : V → V → Hp → VK → Prop := fun o i H Q => ∃ (p : Addr) (xs : List V) (j : Nat) (z : V), o = .ref p ∧ i = .int (j : Int) ∧ SqL K H p xs ∧ xs[j]? = some z ∧ Q z H
theorem get_listN {X : Cx} : PGet X (rGetL X.K) := by
  intro pins s σ H o i ov iv Q I ro ri h
  obtain ⟨p, xs, j, z, rfl, rfl, hq, he, q⟩ := h
  cases ro
  obtain ⟨t, rfl⟩ := ri
  obtain ⟨its, r, pl, hz⟩ := I.list hq
  obtain ⟨w, ew, rw'⟩ := r.get he
  have hl := r.length
  have hj : j < xs.length := (List.getElem?_eq_some_iff.mp he).1
  have hn := line63
  exact wpAny_getItem_list (x := w) pl.isList (Int.natCast_nonneg _) (by omega) (by simpa using ew) ⟨z, H, I, rw', q⟩
theorem ixN_of {m p : Nat} (h : p < m) : ixN m (p : Int) = some p := by
  unfold ixN
  simp
  omega
section
variable {K : PySem.W.Frag} {n : Nat} {te ta tb tc to ti tv : TE} {tA : TA} {env env' : Env1} {S S1 S2 S3 : List Dat} {x y z : Sl} {d e : Dat} {ds es ds' : List Dat} {P P' : Post} {t u : TS}
  {B B0 B1 B2 B' Bk H H0 H1 H2 H' : Hp} {as as0 as1 : List Addr} {D : Ends} {σ : L2.St} {i j k : Nat}
theorem sp_augL1 {fn : Int → Int → Int} {p q : Int} (ho : Ev K to env S (.c k) S) (hi : Ev K ti env S (.d (.int (j : Int))) S) (hs : S[k]? = some (.lst ds)) (hj : ds[j]? = some (.int p)) (h : Ev K te env S (.d (.int q)) S) (hq : P.nx env (S.set k (.lst (ds.set j (.int (fn p q)))))) :
    SP K n (tAugS to ti te (rGetL K) (ipI fn) rSetL) env S P := fun B0 H0 as0 Bk B H as σ hl f c g D m =>
  ho B H as σ c g _ fun v B1 H1 c1 e1 r1 => hi B1 H1 as σ c1 (g.mono e1.ex) _ fun w B2 H2 c2 e2 r2 => by
    obtain ⟨a, ha, rfl⟩ := r1
    cases r2
    obtain ⟨vs, hv, rv⟩ := (c2.cells k a _ ha hs).2.lst
    obtain ⟨z, hz, rz⟩ := rv.get hj
    cases rz
    refine ⟨a, vs, j, .int p, rfl, rfl, Evl.sq_of hv, hz, h B2 H2 as σ c2 (g.mono (e1.trans e2).ex) _ fun w3 B3 H3 c3 e3 r3 => ?_⟩
    cases r3
    obtain ⟨vs3, hv3, rv3⟩ := (c3.cells k a _ ha hs).2.lst
    have hjl : j < ds.length := (List.getElem?_eq_some_iff.mp hj).1
    have e03 := ((e1.trans e2).trans e3).trans (Evo.setc (o := .lst (vs3.set j (.int (fn p q)))) (List.mem_of_getElem? ha) hv3 (fun _ z => nomatch z))
    exact ⟨p, q, rfl, rfl, a, vs3, (j : Int), j, rfl, rfl, hv3, by rw [rv3.length]; exact ixN_of hjl, m.nx _ _ B3 _ as σ (f.step e03) (c3.setc ha (show CellO K B3 (.lst _) (.lst _) from Reps.set j (.int _) rv3)) (g.mono e03.ex) hq⟩
end
end RW

set_option Elab.async false
set_option linter.all false
set_option maxRecDepth 100000
set_option maxHeartbeats 4000000
namespace RW
open PySem PySem.Spec PyProof.Rows L2
open Evl (Ex)
/-! ### a, b, c, .. = what is a list or a tuple -/
def gNs : List Nat → TGs
  | [] => gNil
  | i :: r => gCons (gName i) (gNs r)
def setN (env : Env1) : List Nat → List Dat → Env1
  | i :: is, d :: ds => setN (env.set i (some (.d d))) is ds
  | _, _ => env
def gSeqT (K : PySem.W.Frag) (n : Nat) (t : TGs) : TG := fun v σ H Q => gTup K n t v σ H Q ∨ gLst K n t v σ H Q
theorem pg_seqT {X : Cx} {es : List Expr} {k n : Nat} {t : TGs} {pos : Pos} (hc : X.calm = true) (h : PGs X es t) (hn : (assignEach es X.env).length = n := by rfl) (hst : (assignEach es X.env).findIdx? (·.1) = none := by rfl) : PG X (.Tuple es k pos) (gSeqT X.K n t) := by
  refine ⟨fun pins s σ H v u Q I r hw => ?_⟩
  rcases hw with hw | hw
  · exact (pg_tup hc h hn hst).run pins s σ H v u Q I r hw
  · exact (pg_lst hc h hn hst).run pins s σ H v u Q I r hw
section
variable {K : PySem.W.Frag} {B H : Hp} {as : List Addr} {env : Env1} {σ : L2.St} {S : List Dat} {n : Nat}
theorem tgs_names : ∀ {is : List Nat} {ds : List Dat} {vs : List V} {σ : L2.St} {env : Env1} {Q : L2.St → Hp → Prop}, Reps K B vs ds → is.length = ds.length → EnvR K B as σ env → (∀ σ', EnvR K B as σ' (setN env is ds) → (∀ ws : List Nat, (∀ i ∈ is, i ∈ ws) → L2.wipe σ' ws = L2.wipe σ ws) → Q σ' H) → gNs is vs σ H Q
  | [], _, _, _, _, _, .nil, _, g, q => ⟨rfl, q _ g fun _ _ => rfl⟩
  | i :: is, d :: ds, v :: vs, σ, env, Q, .cons r rr, hl, g, q => by
    refine ⟨v, vs, rfl, ?_⟩
    show gNs is vs (σ.set i (some v)) H Q
    refine tgs_names rr (by simpa using hl) (EnvR.set (s := .d d) i g r) fun σ' g' hw => q σ' g' fun ws h => ?_
    rw [hw ws fun j hj => h j (List.mem_cons_of_mem _ hj), wipe_set (h i List.mem_cons_self)]
theorem tg_tupN {is : List Nat} {ds : List Dat} (hl : is.length = ds.length) (hn : n = ds.length) : TgD K (gTup K n (gNs is)) (.tup ds) is (fun env => setN env is ds) := fun B H as S σ env v c g r Q q => by
  cases r with
  | tup h r => exact ⟨_, _, rfl, Evl.ex_t c.ex h, by rw [r.length, hn], tgs_names r hl g q⟩
theorem tg_seqT {is : List Nat} {ds : List Dat} (hl : is.length = ds.length) (hn : n = ds.length) : TgD K (gSeqT K n (gNs is)) (.tup ds) is (fun env => setN env is ds) := fun B H as S σ env v c g r Q q => .inl (tg_tupN hl hn B H as S σ env v c g r Q q)
theorem tg_seqL {is : List Nat} {ds : List Dat} (hl : is.length = ds.length) (hn : n = ds.length) : TgD K (gSeqT K n (gNs is)) (.lst ds) is (fun env => setN env is ds) := fun B H as S σ env v c g r Q q => by
  cases r with
  | lst h r => exact .inr ⟨_, _, rfl, .inl (.inl (c.ex _ _ h)), by rw [r.length, hn], tgs_names r hl g q⟩
/-- at, (point, others) -/
theorem tg_nest {j k l : Nat} {d e f : Dat} : TgD K (gTup K 2 (gCons (gName j) (gCons (gTup K 2 (gCons (gName k) (gCons (gName l) gNil))) gNil))) (.tup [d, .tup [e, f]]) [j, k, l] (fun env => ((env.set j (some (.d d))).set k (some (.d e))).set l (some (.d f))) := fun B H as S σ env v c g r Q q => by
  cases r with
  | tup h r =>
    cases r with
    | cons r1 r =>
      cases r with
      | cons r2 r =>
        cases r
        refine ⟨_, _, rfl, Evl.ex_t c.ex h, rfl, _, _, rfl, ?_⟩
        refine ⟨_, _, rfl, ?_⟩
        refine tg_pair B H as S (σ.set j (some _)) (env.set j (some (.d d))) _ c (EnvR.set (s := .d d) j g r1) r2 _ fun σ' g' hw => ⟨rfl, q σ' g' fun ws h => ?_⟩
        rw [hw ws fun i hi => h i (by simp at hi ⊢; omega), wipe_set (h j (by simp))]
end
theorem pg_seqTK (K : PySem.W.Frag) {X : Cx} {es : List Expr} {k n : Nat} {t : TGs} {pos : Pos} (hc : X.calm = true) (h : PGs X es t) (hK : X.K = K := by rfl) (hn : (assignEach es X.env).length = n := by rfl) (hst : (assignEach es X.env).findIdx? (·.1) = none := by rfl) : PG X (.Tuple es k pos) (gSeqT K n t) := by
  subst hK
  exact pg_seqT hc h hn hst
end RW

set_option Elab.async false
set_option linter.all false
set_option maxRecDepth 100000
set_option maxHeartbeats 4000000
namespace RW
open PySem PySem.Spec PyProof.Rows L2
open Evl (Ex)
def mxL : List Int → Int
  | [] => 0
  | x :: r => if r = [] then x else max x (mxL r)
theorem mxL_in : ∀ {ns : List Int}, ns ≠ [] → mxL ns ∈ ns
  | [], h => absurd rfl h
  | x :: r, _ => by
    unfold mxL
    by_cases h : r = []
    · rw [if_pos h]; exact List.mem_cons_self
    · rw [if_neg h]
      have := mxL_in h
      rcases Int.le_total x (mxL r) with k | k
      · rw [Int.max_eq_right k]; exact List.mem_cons_of_mem _ this
      · rw [Int.max_eq_left k]; exact List.mem_cons_self
theorem mxL_ge : ∀ {ns : List Int} {y : Int}, y ∈ ns → y ≤ mxL ns
  | x :: r, y, hy => by
    unfold mxL
    by_cases h : r = []
    · subst h
      rw [if_pos rfl, List.mem_singleton.mp hy]; exact Int.le_refl _
    · rw [if_neg h]
      rcases List.mem_cons.mp hy with rfl | hy
      · exact Int.le_max_left _ _
      · exact Int.le_trans (mxL_ge hy) (Int.le_max_right _ _)
def mnL (ns : List Int) : Int := - mxL (ns.map fun x => -x)
theorem mnL_in {ns : List Int} (h : ns ≠ []) : mnL ns ∈ ns := by
  have := mxL_in (ns := ns.map fun x => -x) (by simpa using h)
  obtain ⟨x, hx, e⟩ := List.mem_map.mp this
  have e2 : mnL ns = x := by unfold mnL; rw [← e]; omega
  rw [e2]; exact hx
theorem mnL_le {ns : List Int} {y : Int} (hy : y ∈ ns) : mnL ns ≤ y := by
  have := mxL_ge (ns := ns.map fun x => -x) (List.mem_map.mpr ⟨y, hy, rfl⟩)
  unfold mnL; omega
section
variable {K : PySem.W.Frag} {S : List Dat} {x : Sl} {ns : List Int}
theorem cd_maxL (h : SeqL S x (ns.map Dat.int)) (hne : ns ≠ []) : CallD K (rMax K) [x] S (.int (mxL ns)) S := fun B H as vs c r Q q => by
  cases r with
  | cons r1 rr =>
    cases rr
    obtain ⟨a, ws, rfl, hw, rv⟩ := h.read c r1
    have := rv.ints
    subst this
    refine ⟨a, ns, rfl, Evl.sq_of hw, List.length_pos_iff.mpr hne, fun m hm hy => ?_⟩
    have e : m = mxL ns := Int.le_antisymm (mxL_ge hm) (hy _ (mxL_in hne))
    rw [e]
    exact q _ B H c Evo.refl (.int _)
theorem cd_minL (h : SeqL S x (ns.map Dat.int)) (hne : ns ≠ []) : CallD K (rMin K) [x] S (.int (mnL ns)) S := fun B H as vs c r Q q => by
  cases r with
  | cons r1 rr =>
    cases rr
    obtain ⟨a, ws, rfl, hw, rv⟩ := h.read c r1
    have := rv.ints
    subst this
    refine ⟨a, ns, rfl, Evl.sq_of hw, List.length_pos_iff.mpr hne, fun m hm hy => ?_⟩
    have e : m = mnL ns := Int.le_antisymm (hy _ (mnL_in hne)) (mnL_le hm)
    rw [e]
    exact q _ B H c Evo.refl (.int _)
/-- a >> b -/
theorem o_shrI {i j : Int} (h : 0 ≤ j) : Op2 K (rI (fun _ j => 0 ≤ j) fun i j => V.int (i / 2 ^ j.toNat)) (.d (.int i)) (.d (.int j)) S (.int (i / 2 ^ j.toNat)) := op2_int h fun B => .int _
end
/-! ### sum(xs) of a list or a tuple -/
def rSumA (K : PySem.W.Frag) : List V → Hp → VK → Prop := fun vs H Q => ∃ (a : Addr) (ns : List Int), vs = [V.ref a] ∧ (SqL K H a (ns.map V.int) ∨ SqT K H a (ns.map V.int)) ∧ Q (.int ns.sum) H
theorem cr_sumAK (K : PySem.W.Frag) {X : Cx} (hc : X.calm = true := by rfl) (hK : X.K = K := by rfl) : CallR X (.builtin "sum") (rSumA K) := by
  subst hK
  intro pins s σ H vs us Q I r h
  obtain ⟨a, ns, rfl, hs | hs, q⟩ := h
  · exact cr_sum hc pins s σ H _ us Q I r ⟨a, ns, rfl, hs, q⟩
  · obtain ⟨its, rv, hl, _⟩ := I.tuple hs
    rw [Vals.ref1 r]
    have hi := rv.ints
    obtain ⟨xs, e⟩ := hi.allInts.items
    have hn : numsOf (intItems xs).toList = ns := by rw [← e]; exact hi.numsOf
    rw [nums_intItems] at hn
    have hl2 : s.heap.IsTuple a its.toArray := hl
    rw [e] at hl2
    refine PySem.W.ktm_sumG (I.ok.hd hc) hl2 fun h' tk t' hk => ?_
    rw [preSum_eq, List.take_of_length_le (by simp), hn]
    exact ⟨.int _, H, I.kept hk, ⟨_, rfl⟩, q⟩
section
variable {K : PySem.W.Frag} {S : List Dat} {x : Sl} {ns : List Int}
theorem cd_sumA (h : Seq S x (ns.map Dat.int)) : CallD K (rSumA K) [x] S (.int ns.sum) S := fun B H as vs c r Q q => by
  cases r with
  | cons r1 rr =>
    cases rr
    obtain ⟨a, k, ws, rfl, hw, rv⟩ := h.read c r1
    have := rv.ints
    subst this
    exact ⟨a, ns, rfl, sq_or hw, q _ B H c Evo.refl (.int _)⟩
end
theorem pe_fldK (K : PySem.W.Frag) {X : Cx} {o : Expr} {f : Str} {p : Pos} {ta : TE} (ho : PE X o ta) (h : attributeBase o f X.env (eval o X.env) = eval o X.env := by rfl) (hK : X.K = K := by rfl) : PE X (.Attribute o f p) (tFld K ta f) := by
  subst hK
  exact pe_fld ho h
end RW

set_option Elab.async false
set_option linter.all false
set_option maxRecDepth 100000
set_option maxHeartbeats 4000000
namespace RW
open PySem PySem.Spec PyProof.Rows L2
open Evl (Ex)
/-! ### dicts with numbers (and texts) as keys, with what they hold -/
section
variable {κ : Type} [DecidableEq κ]
def valD (kvs : List (κ × Dat)) (k : κ) : Option Dat := (kvs.find? fun kv => decide (kv.1 = k)).map (·.2)
def putD (kvs : List (κ × Dat)) (k : κ) (v : Dat) : List (κ × Dat) :=
  if (kvs.any fun kv => decide (kv.1 = k)) = true then kvs.map (fun kv => if kv.1 = k then (kv.1, v) else kv) else kvs ++ [(k, v)]
end
section
variable {K : PySem.W.Frag} {n : Nat} {te ta tb tc to ti tv : TE} {tA : TA} {env env' : Env1} {S S1 S2 S3 : List Dat} {x y z : Sl} {d e : Dat} {ds es ds' : List Dat} {P P' : Post} {t u : TS}
  {B B0 B1 B2 B' Bk H H0 H1 H2 H' : Hp} {as as0 as1 : List Addr} {D : Ends} {σ : L2.St} {i j k : Nat} {p : Addr} {E : XK} {ks : List (L2.Key × Dat)} {kts : List (List Int × Dat)}
theorem CellAt.dkd {a : Addr} (h : CellAt K B H a (.dkd ks)) : ∃ kvs, H a = some (.dK kvs) ∧ kvs.map (·.1) = ks.map (·.1) ∧ Reps K B (kvs.map (·.2)) (ks.map (·.2)) := by
  obtain ⟨o, h1, h2⟩ := h
  cases o <;> first
    | exact h2.elim
    | exact ⟨_, h1, h2⟩
theorem CellAt.dtd {a : Addr} (h : CellAt K B H a (.dtd kts)) : ∃ kvs, H a = some (.dT kvs) ∧ kvs.map (·.1) = (kts.map fun k => k.1.map Sum.inl) ∧ Reps K B (kvs.map (·.2)) (kts.map (·.2)) := by
  obtain ⟨o, h1, h2⟩ := h
  cases o <;> first
    | exact h2.elim
    | exact ⟨_, h1, h2⟩
theorem val_reps {κ ι : Type} [DecidableEq κ] [DecidableEq ι] {f : ι → κ} (hf : ∀ a b, f a = f b → a = b) {k : ι} : ∀ {kvs : List (κ × V)} {ks : List (ι × Dat)}, kvs.map (·.1) = (ks.map fun p => f p.1) → Reps K B (kvs.map (·.2)) (ks.map (·.2)) → ∀ {d : Dat}, valD ks k = some d → ∃ v, valV kvs (f k) = some v ∧ Rep K B v d
  | [], [], _, _, _, h => by cases h
  | (a, v) :: kvs, (b, e) :: ks, h, r, d, hv => by
    simp only [List.map_cons, List.cons.injEq] at h
    rw [List.map_cons, List.map_cons] at r
    cases r with
    | cons r1 rr =>
      obtain ⟨rfl, h2⟩ := h
      by_cases q : b = k
      · subst q
        have : valD ((b, e) :: ks) b = some e := by unfold valD; simp
        rw [this] at hv; cases hv
        exact ⟨v, valV_pos rfl, r1⟩
      · have q2 : ¬ f b = f k := fun z => q (hf _ _ z)
        have : valD ((b, e) :: ks) k = valD ks k := by unfold valD; simp [List.find?_cons, q]
        rw [this] at hv
        rw [valV_neg (p := (f b, v)) q2]
        exact val_reps hf h2 rr hv
  | [], _ :: _, h, _, _, _ => by simp at h
  | _ :: _, [], h, _, _, _ => by simp at h
theorem any_reps {κ ι : Type} [DecidableEq κ] [DecidableEq ι] {f : ι → κ} (hf : ∀ a b, f a = f b → a = b) {k : ι} : ∀ {kvs : List (κ × V)} {ks : List (ι × Dat)}, kvs.map (·.1) = (ks.map fun p => f p.1) → (kvs.any fun kv => decide (kv.1 = f k)) = ks.any fun kv => decide (kv.1 = k)
  | [], [], _ => rfl
  | (a, v) :: kvs, (b, e) :: ks, h => by
    simp only [List.map_cons, List.cons.injEq] at h
    obtain ⟨rfl, h2⟩ := h
    rw [List.any_cons, List.any_cons, any_reps hf h2]
    congr 1
    exact decide_eq_decide.mpr ⟨fun z => hf _ _ z, fun z => by rw [show b = k from z]⟩
  | [], _ :: _, h => by simp at h
  | _ :: _, [], h => by simp at h
theorem map_reps {κ ι : Type} [DecidableEq κ] [DecidableEq ι] {f : ι → κ} (hf : ∀ a b, f a = f b → a = b) {k : ι} {v : V} {d : Dat} (r : Rep K B v d) : ∀ {kvs : List (κ × V)} {ks : List (ι × Dat)}, kvs.map (·.1) = (ks.map fun p => f p.1) → Reps K B (kvs.map (·.2)) (ks.map (·.2)) →
    (kvs.map fun kv => if kv.1 = f k then (kv.1, v) else kv).map (·.1) = ((ks.map fun kv => if kv.1 = k then (kv.1, d) else kv).map fun p => f p.1) ∧ Reps K B ((kvs.map fun kv => if kv.1 = f k then (kv.1, v) else kv).map (·.2)) ((ks.map fun kv => if kv.1 = k then (kv.1, d) else kv).map (·.2))
  | [], [], _, _ => ⟨rfl, .nil⟩
  | (a, v') :: kvs, (b, e) :: ks, h, rr => by
    simp only [List.map_cons, List.cons.injEq] at h
    rw [List.map_cons, List.map_cons] at rr
    obtain ⟨rfl, h2⟩ := h
    cases rr with
    | cons r1 rr =>
      obtain ⟨i1, i2⟩ := map_reps hf (k := k) r h2 rr
      by_cases q : b = k
      · subst q
        refine ⟨?_, ?_⟩
        · simp only [List.map_cons, if_pos]; rw [i1]
        · simp only [List.map_cons, if_pos]; exact .cons r i2
      · have q2 : ¬ f b = f k := fun z => q (hf _ _ z)
        refine ⟨?_, ?_⟩
        · simp only [List.map_cons, if_neg q, if_neg q2]; rw [i1]
        · simp only [List.map_cons, if_neg q, if_neg q2]; exact .cons r1 i2
  | [], _ :: _, h, _ => by simp at h
  | _ :: _, [], h, _ => by simp at h
theorem put_reps {κ ι : Type} [DecidableEq κ] [DecidableEq ι] {f : ι → κ} (hf : ∀ a b, f a = f b → a = b) {k : ι} {v : V} {d : Dat} (r : Rep K B v d) {kvs : List (κ × V)} {ks : List (ι × Dat)} (h : kvs.map (·.1) = (ks.map fun p => f p.1)) (rr : Reps K B (kvs.map (·.2)) (ks.map (·.2))) :
    (putK kvs (f k) v).map (·.1) = ((putD ks k d).map fun p => f p.1) ∧ Reps K B ((putK kvs (f k) v).map (·.2)) ((putD ks k d).map (·.2)) := by
  unfold putK putD
  rw [any_reps hf h]
  split
  · exact map_reps hf r h rr
  · refine ⟨?_, ?_⟩
    · rw [List.map_append, List.map_append, h]; rfl
    · rw [List.map_append, List.map_append]; exact rr.append (.cons r .nil)
theorem len_reps {κ ι : Type} {f : ι → κ} {kvs : List (κ × V)} {ks : List (ι × Dat)} (h : kvs.map (·.1) = (ks.map fun p => f p.1)) : kvs.length = ks.length := by
  have := congrArg List.length h
  rwa [List.length_map, List.length_map] at this
/-- a, b = {}, e: a is a new dict -/
theorem sp_parDK (hv : Ev K tb env S y S1) (q : SP K n u ((env.set j (some (.c S1.length))).set k (some y)) (S1 ++ [.dkd []]) P) :
    SP K n (tSeq (tPar j k (tCons tDNewK (tCons tb tNil))) u) env S P := fun B0 H0 as0 Bk B H as σ hl f c g D m => fun p hp => by
  have hB := c.Bnone hp
  have hpa := c.fresh hp
  have c2 : Ok K B (upd H p (.dK [])) as S := c.other hB hpa
  have e2 : Evo B H as B (upd H p (.dK [])) := Evo.refl.other (.of hp)
  refine hv B _ as σ c2 (g.mono e2.ex) _ fun w B2 H2 c3 e3 r3 => ?_
  obtain ⟨k1, k2⟩ := e3.kept hpa upd_same hB
  have e03 := e2.trans e3
  exact ⟨_, _, rfl, q B0 H0 as0 Bk _ _ (as ++ [p]) _ hl ((f.step e03).push (f.evo.old hp)) (c3.push k2 hpa ⟨_, k1, rfl, .nil⟩) (((g.mono e03.ex).grow.set (s := .c S1.length) j ⟨p, by rw [← c3.len]; simp, rfl⟩).set k r3.grow) D m⟩
/-- x = {} -/
theorem sp_setDK (q : SP K n u (env.set i (some (.c S.length))) (S ++ [.dkd []]) P) : SP K n (tSeq (tAsg tDNewK (gName i)) u) env S P := fun B0 H0 as0 Bk B H as σ hl f c g D m => fun p hp => by
  have hB := c.Bnone hp
  have hpa := c.fresh hp
  have c2 : Ok K B (upd H p (.dK [])) as S := c.other hB hpa
  have e2 : Evo B H as B (upd H p (.dK [])) := Evo.refl.other (.of hp)
  refine q B0 H0 as0 Bk B _ (as ++ [p]) _ hl ((f.step e2).push (f.evo.old hp)) (c2.push hB hpa ⟨_, upd_same, rfl, .nil⟩) ((g.grow).set i ⟨p, by rw [← c.len]; simp, rfl⟩) D m
theorem key_inj : ∀ a b : L2.Key, id a = id b → a = b := fun _ _ h => h
theorem rep_key {v : V} {iv : Int} (h : Rep K B v (.int iv)) : v = kV (.inl iv) := by cases h; rfl
/-- d[i], i a number -/
theorem ev_dget {iv : Int} (h : Ev K ta env S (.c k) S1) (hi : Ev K ti env S1 (.d (.int iv)) S2) (hs : S2[k]? = some (.dkd ks)) (hv : valD ks (.inl iv) = some d) : Ev K (tDGet ta ti) env S (.d d) S2 := fun B H as σ c g Q q =>
  h B H as σ c g _ fun v B1 H1 c1 e1 r1 => hi B1 H1 as σ c1 (g.mono e1.ex) _ fun w B2 H2 c2 e2 r2 => by
    obtain ⟨p, hp, rfl⟩ := r1
    obtain ⟨kvs, hk, h1, h2⟩ := (c2.cells k p _ hp hs).2.dkd
    obtain ⟨v, hv1, hv2⟩ := val_reps (f := id) key_inj (by simpa using h1) h2 hv
    have hw := rep_key r2
    subst hw
    exact ⟨p, v, rfl, by have := DGet.k (k := .inl iv) hk; rw [show valV kvs (Sum.inl iv) = some v from hv1] at this; exact this, q v B2 H2 c2 (e1.trans e2) hv2⟩
/-- d[i] = e, i a number -/
theorem sp_dput {iv : Int} (h : Ev K te env S (.d d) S1) (ho : Ev K to env S1 (.c k) S2) (hi : Ev K ti env S2 (.d (.int iv)) S3) (hs : S3[k]? = some (.dkd ks)) (hl : ks.length < sizeLine) (q : SP K n u env (S3.set k (.dkd (putD ks (.inl iv) d))) P) :
    SP K n (tSeq (tAsg te (gSub to ti rSetD)) u) env S P := fun B0 H0 as0 Bk B H as σ hl0 f0 c g D m =>
  h B H as σ c g _ fun v B1 H1 c1 e1 r1 => ho B1 H1 as σ c1 (g.mono e1.ex) _ fun w B2 H2 c2 e2 r2 => hi B2 H2 as σ c2 (g.mono (e1.trans e2).ex) _ fun l B3 H3 c3 e3 r3 => by
    obtain ⟨p, hp, rfl⟩ := r2
    have hw := rep_key r3
    subst hw
    obtain ⟨kvs, hk, h1, h2⟩ := (c3.cells k p _ hp hs).2.dkd
    have h1' : kvs.map (·.1) = ks.map fun p => id p.1 := by simpa using h1
    obtain ⟨i1, i2⟩ := put_reps (f := id) key_inj (k := .inl iv) (Rep.mono (e2.trans e3).ex r1) h1' h2
    have e04 := ((e1.trans e2).trans e3).trans (Evo.setc (o := .dK (putK kvs (.inl iv) v)) (List.mem_of_getElem? hp) hk (fun _ z => nomatch z))
    exact ⟨p, _, rfl, .k hk (by rw [len_reps h1']; exact hl), q B0 H0 as0 Bk _ _ as σ hl0 (f0.step e04) (c3.setc hp (show CellO K _ (.dK _) (.dkd _) from ⟨by simpa using i1, i2⟩)) (g.mono e04.ex) D m⟩
theorem sp_dput1 {iv : Int} (h : Ev K te env S (.d d) S1) (ho : Ev K to env S1 (.c k) S2) (hi : Ev K ti env S2 (.d (.int iv)) S3) (hs : S3[k]? = some (.dkd ks)) (hl : ks.length < sizeLine) (q : P.nx env (S3.set k (.dkd (putD ks (.inl iv) d)))) :
    SP K n (tAsg te (gSub to ti rSetD)) env S P := fun B0 H0 as0 Bk B H as σ hl0 f0 c g D m =>
  h B H as σ c g _ fun v B1 H1 c1 e1 r1 => ho B1 H1 as σ c1 (g.mono e1.ex) _ fun w B2 H2 c2 e2 r2 => hi B2 H2 as σ c2 (g.mono (e1.trans e2).ex) _ fun l B3 H3 c3 e3 r3 => by
    obtain ⟨p, hp, rfl⟩ := r2
    have hw := rep_key r3
    subst hw
    obtain ⟨kvs, hk, h1, h2⟩ := (c3.cells k p _ hp hs).2.dkd
    have h1' : kvs.map (·.1) = ks.map fun p => id p.1 := by simpa using h1
    obtain ⟨i1, i2⟩ := put_reps (f := id) key_inj (k := .inl iv) (Rep.mono (e2.trans e3).ex r1) h1' h2
    have e04 := ((e1.trans e2).trans e3).trans (Evo.setc (o := .dK (putK kvs (.inl iv) v)) (List.mem_of_getElem? hp) hk (fun _ z => nomatch z))
    exact ⟨p, _, rfl, .k hk (by rw [len_reps h1']; exact hl), m.nx _ _ _ _ as σ (f0.step e04) (c3.setc hp (show CellO K _ (.dK _) (.dkd _) from ⟨by simpa using i1, i2⟩)) (g.mono e04.ex) q⟩
end
end RW

set_option Elab.async false
set_option linter.all false
set_option maxRecDepth 100000
set_option maxHeartbeats 4000000
namespace RW
open PySem PySem.Spec PyProof.Rows L2
open Evl (Ex)
/-! ### any, all of lists of data -/
def rAnyD (K : PySem.W.Frag) : List V → Hp → VK → Prop := fun vs H Q => ∃ (a : Addr) (ds : List PyData), vs = [V.ref a] ∧ Dp K H (.ref a) (.list ds) ∧ PyData.plainAll ds = true ∧ (∀ x ∈ ds, x.fits63) ∧ Q (.bl (ds.any PyData.truthy)) H
theorem cr_anyD {X : Cx} (K : PySem.W.Frag) (hc : X.calm = true) (hK : X.K = K := by rfl) : CallR X (.builtin "any") (rAnyD K) := by
  subst hK
  intro pins s σ H vs us Q I r h
  obtain ⟨a, ds, rfl, hd, hp, hf, q⟩ := h
  obtain ⟨as, r1⟩ := Dp.reads I (.list ds) (.ref a) (.ref a) hd rfl
  rw [Vals.ref1 r]
  cases r1 with
  | list h1 h2 h3 h4 =>
    exact PySem.W.any_list_data (I.ok.hd hc) ⟨_, h1, h2, _, h3⟩ h4 hp hf fun h' tk hk => ⟨.bl _, H, I.kept hk, rfl, q⟩
section
variable {K : PySem.W.Frag} {S : List Dat} {x : Sl} {ds : List Dat}
/-- any([xs, ..]), the items tuples of data -/
theorem plain_all : ∀ {ds : List Dat}, (∀ d ∈ ds, (py d).plain = true) → PyData.plainAll (pyAll ds) = true
  | [], _ => rfl
  | d :: ds, h => by
    show ((py d).plain && PyData.plainAll (pyAll ds)) = true
    rw [h d List.mem_cons_self, plain_all fun d hd => h d (List.mem_cons_of_mem _ hd)]; rfl
theorem pl_plain {m : Nat} {d : Dat} (h : Pl m d) : (py d).plain = true := by
  induction h with
  | non => rfl
  | bl b => rfl
  | int i => rfl
  | str h => rfl
  | tup h ih => exact plain_all ih
  | lst h ih => exact plain_all ih
theorem cd_anyT {m : Nat} {tss : List (List Dat)} (h : PlS S x m (.lst (tss.map Dat.tup))) (hf : ∀ t ∈ tss, t.length < 2 ^ 62) : CallD K (rAnyD K) [x] S (.bl (tss.any fun t => !t.isEmpty)) S := fun B H as vs c r Q q => by
  cases r with
  | cons r1 rr =>
    cases rr
    have hd := h.dp c r1
    have hl := pl_plain h.1
    obtain ⟨a, ha⟩ : ∃ a, ‹V› = .ref a := by
      rcases h.2 with rfl | ⟨k, ds, rfl, hds, hk⟩
      · cases r1; exact ⟨_, rfl⟩
      · obtain ⟨a, _, e⟩ := r1; exact ⟨a, e⟩
    subst ha
    have key : ∀ L : List (List Dat), (pyAll (L.map Dat.tup)).any PyData.truthy = L.any fun t => !t.isEmpty := fun L => by
      induction L with
      | nil => rfl
      | cons t L ih =>
        show (PyData.truthy (.tuple (pyAll t)) || (pyAll (L.map Dat.tup)).any PyData.truthy) = _
        rw [ih, List.any_cons]
        congr 1
        cases t <;> rfl
    have fit : ∀ L : List (List Dat), (∀ t ∈ L, t.length < 2 ^ 62) → ∀ x ∈ pyAll (L.map Dat.tup), x.fits63 := fun L => by
      induction L with
      | nil => intro _ x hx; cases hx
      | cons t L ih =>
        intro hL x hx
        rcases List.mem_cons.mp (show x ∈ PyData.tuple (pyAll t) :: pyAll (L.map Dat.tup) from hx) with rfl | hx
        · show ((pyAll t).length : Int) < 2 ^ 63
          have e : (pyAll t).length = t.length := by
            clear hL ih hx
            induction t with
            | nil => rfl
            | cons y t ih => show (pyAll t).length + 1 = _; rw [ih]; rfl
          have := hL t List.mem_cons_self
          omega
        · exact ih (fun t ht => hL t (List.mem_cons_of_mem _ ht)) x hx
    refine ⟨a, pyAll (tss.map Dat.tup), rfl, hd, hl, fit tss hf, ?_⟩
    rw [key tss]
    exact q _ B H c Evo.refl (.bl _)
end
end RW

set_option Elab.async false
set_option linter.all false
set_option maxRecDepth 100000
set_option maxHeartbeats 4000000
namespace RW
open PySem PySem.Spec PyProof.Rows L2
open Evl (Ex)
/-! ### a def whose result is known by what holds of it -/
def SpE (K : PySem.W.Frag) (G : List Sl → List Dat → (Dat → List Dat → Prop) → Prop) : Sp := fun vs H Q _ => ∃ B as S ss post, Ok K B H as S ∧ RepSs K B as vs ss ∧ G ss S post ∧
  ∀ v r B' H' S', Ok K B' H' as S' → Evo B H as B' H' → Rep K B' v r → post r S' → Q v H'
def EvE (K : PySem.W.Frag) (te : TE) (env : Env1) (S : List Dat) (post : Sl → List Dat → Prop) : Prop :=
  ∀ B H as σ, Ok K B H as S → EnvR K B as σ env → ∀ Q : VK, (∀ v r B' H' S', Ok K B' H' as S' → Evo B H as B' H' → RepS K B' as v r → post r S' → Q v H') → te σ H Q
section
variable {K : PySem.W.Frag} {n : Nat} {te ta tb tc to ti tv : TE} {tA : TA} {env env' : Env1} {S S1 S2 S3 : List Dat} {x y z : Sl} {d e : Dat} {ds es ds' : List Dat} {P P' : Post} {t u : TS}
  {B B0 B1 B2 B' Bk H H0 H1 H2 H' : Hp} {as as0 as1 : List Addr} {D : Ends} {σ : L2.St} {i j k : Nat} {p : Addr} {E : XK}
theorem spe_len {G : List Sl → List Dat → (Dat → List Dat → Prop) → Prop} {k : Nat} (h : ∀ ss S post, G ss S post → ss.length = k) : ∀ vs H Q E, SpE K G vs H Q E → vs.length = k := fun vs H Q E q => by
  obtain ⟨B, as, S, ss, post, c, rs, g, _⟩ := q
  rw [rs.length]
  exact h ss S post g
theorem sp_bodyE {G : List Sl → List Dat → (Dat → List Dat → Prop) → Prop} {N : List Str} {vs : List V} {Q : VK} (h : SpE K G vs H Q E)
    (k : ∀ ss S post, G ss S post → SP K S.length t (ss.map some ++ List.replicate (N.length - ss.length) none) S { rt := post, nx := fun _ T => post .non (T.take S.length) }) : t { nx := fun _ H' => Q .non H', rt := Q } (start N vs) H := by
  obtain ⟨B, as, S, ss, post, c, rs, g, q⟩ := h
  refine k ss S post g B H as B B H as _ c.len ⟨Ex.refl B, List.take_length, Evo.refl, fun a ha => by rw [List.drop_length] at ha; cases ha⟩ c (EnvR.start rs) _ ⟨fun env' T B' H' as' σ' f' c' g' p1 => ?_, fun v r' T B' H' c' e' r1 p1 => ?_, fun _ _ _ _ _ _ _ _ _ p => p.elim, fun _ _ _ _ _ _ _ _ _ p => p.elim, trivial⟩
  · have c2 := c'.upto as.length
    rw [f'.base, c.len] at c2
    exact q .non .non B' H' _ c2 f'.evo .non p1
  · exact q v r' B' H' T c' e' r1 p1
/-- x = e, e by what holds of it -/
theorem sp_setE {post : Sl → List Dat → Prop} (h : EvE K te env S post) (q : ∀ r S2, post r S2 → SP K n u (env.set i (some r)) S2 P) : SP K n (tSeq (tAsg te (gName i)) u) env S P := fun B0 H0 as0 Bk B H as σ hl f c g D m =>
  h B H as σ c g _ fun v r B1 H1 S1 c1 e1 r1 hp => q r S1 hp B0 H0 as0 Bk B1 H1 as _ hl (f.step e1) c1 ((g.mono e1.ex).set i r1) D m
theorem sp_setE1 {post : Sl → List Dat → Prop} (h : EvE K te env S post) (q : ∀ r S2, post r S2 → P.nx (env.set i (some r)) S2) : SP K n (tAsg te (gName i)) env S P := fun B0 H0 as0 Bk B H as σ hl f c g D m =>
  h B H as σ c g _ fun v r B1 H1 S1 c1 e1 r1 hp => m.nx _ S1 B1 H1 as _ (f.step e1) c1 ((g.mono e1.ex).set i r1) (q r S1 hp)
/-- return e -/
theorem sp_retE {post : Sl → List Dat → Prop} (h : EvE K te env S post) (q : ∀ r S2, post r S2 → ∃ d, r = .d d ∧ P.rt d (S2.take n)) : SP K n (tRet te) env S P := fun B0 H0 as0 Bk B H as σ hl f c g D m =>
  h B H as σ c g _ fun v r B1 H1 S1 c1 e1 r1 hp => by
    obtain ⟨d, rfl, hq⟩ := q r S1 hp
    have f1 := f.step e1
    have c2 := c1.upto as0.length
    rw [f1.base] at c2
    subst hl
    exact m.rt v d _ B1 H1 c2 f1.evo r1 hq
theorem ev_callE {G : List Sl → List Dat → (Dat → List Dat → Prop) → Prop} {ss : List Sl} {post : Dat → List Dat → Prop} (h : EvA K tA env S ss S1) (hg : G ss S1 post) : EvE K (tCall (SpE K G) [] E tA) env S (fun r T => ∃ d, r = .d d ∧ post d T) := fun B H as σ c g Q q =>
  h B H as σ c g _ fun vs B1 H1 c1 e1 r1 => ⟨B1, as, S1, ss, post, c1, by rw [List.append_nil]; exact r1, hg, fun v r B2 H2 S2 c2 e2 r2 hp => q v (.d r) B2 H2 S2 c2 (e1.trans e2) r2 ⟨r, rfl, hp⟩⟩
theorem EvE.ev {post : Sl → List Dat → Prop} (h : EvE K te env S post) (q : ∀ r S2, post r S2 → r = x ∧ S2 = S1) : Ev K te env S x S1 := fun B H as σ c g Q k =>
  h B H as σ c g Q fun v r B1 H1 S2 c1 e1 r1 hp => by
    obtain ⟨rfl, rfl⟩ := q r S2 hp
    exact k v B1 H1 c1 e1 r1
theorem Ev.ofEv (h : Ev K te env S x S1) : EvE K te env S (fun r T => r = x ∧ T = S1) := fun B H as σ c g Q k =>
  h B H as σ c g Q fun v B1 H1 c1 e1 r1 => k v x B1 H1 S1 c1 e1 r1 ⟨rfl, rfl⟩
/-- e[i] -/
theorem ev_ixE {post : Sl → List Dat → Prop} {iv : Int} (h : EvE K te env S post) (q : ∀ r S2, post r S2 → Ev K ti env S2 (.d (.int iv)) S1 ∧ ∃ ds, Seq S1 r ds ∧ atI ds iv = some d) : Ev K (tOp (rIx K) te ti) env S (.d d) S1 := fun B H as σ c g Q k =>
  h B H as σ c g _ fun v r B1 H1 S2 c1 e1 r1 hp => by
    obtain ⟨hi, ds, hs, ha⟩ := q r S2 hp
    refine hi B1 H1 as σ c1 (g.mono e1.ex) _ fun w B2 H2 c2 e2 r2 => ?_
    exact op2_ix hs ha B2 H2 as v w c2 (r1.mono e2.ex) r2 _ fun u B3 H3 c3 e3 r3 => k u B3 H3 c3 ((e1.trans e2).trans e3) r3
/-- a, b, .. = e, its parts known -/
theorem sp_asgE {post : Sl → List Dat → Prop} {g : TG} {is : List Nat} {f : Dat → Env1 → Env1} (h : EvE K te env S post) (q : ∀ r S2, post r S2 → ∃ d, r = .d d ∧ TgD K g d is (f d) ∧ SP K n u (f d env) S2 P) : SP K n (tSeq (tAsg te g) u) env S P := fun B0 H0 as0 Bk B H as σ hl f0 c g0 D m =>
  h B H as σ c g0 _ fun v r B1 H1 S1 c1 e1 r1 hp => by
    obtain ⟨d, rfl, hg, k⟩ := q r S1 hp
    exact hg B1 H1 as S1 σ env v c1 (g0.mono e1.ex) r1 _ fun σ' g' _ => k B0 H0 as0 Bk B1 H1 as σ' hl (f0.step e1) c1 g' D m
end
end RW

set_option Elab.async false
set_option linter.all false
set_option maxRecDepth 100000
set_option maxHeartbeats 4000000
namespace RW
open PySem PySem.Spec PyProof.Rows L2
open Evl (Ex)
/-! ### min and max of numbers in a list or a tuple -/
theorem mxL_fold : ∀ (xs : List Int) (x : Int), xs.foldl max x = mxL (x :: xs)
  | [], x => rfl
  | y :: xs, x => by
    rw [List.foldl_cons, mxL_fold xs]
    have e : mxL (x :: y :: xs) = max x (mxL (y :: xs)) := by
      show (if (y :: xs) = [] then x else max x (mxL (y :: xs))) = _
      rw [if_neg (by simp)]
    rw [e]
    unfold mxL
    by_cases h : xs = []
    · rw [if_pos h, if_pos h]
    · rw [if_neg h, if_neg h]; omega
theorem mnL_fold (xs : List Int) (x : Int) : xs.foldl min x = mnL (x :: xs) := by
  have key : ∀ (xs : List Int) (x : Int), - xs.foldl min x = (xs.map fun z => -z).foldl max (-x) := fun xs => by
    induction xs with
    | nil => intro x; rfl
    | cons y xs ih =>
      intro x
      rw [List.foldl_cons, List.map_cons, List.foldl_cons, ih]
      congr 1; omega
  have := key xs x
  rw [mxL_fold] at this
  unfold mnL
  rw [List.map_cons]; omega
def rMinA (K : PySem.W.Frag) : List V → Hp → VK → Prop := fun vs H Q => ∃ (a : Addr) (ns : List Int), vs = [V.ref a] ∧ (SqL K H a (ns.map V.int) ∨ SqT K H a (ns.map V.int)) ∧ ns ≠ [] ∧ Q (.int (mnL ns)) H
def rMaxA (K : PySem.W.Frag) : List V → Hp → VK → Prop := fun vs H Q => ∃ (a : Addr) (ns : List Int), vs = [V.ref a] ∧ (SqL K H a (ns.map V.int) ∨ SqT K H a (ns.map V.int)) ∧ ns ≠ [] ∧ Q (.int (mxL ns)) H
theorem dp_ints {K : PySem.W.Frag} {H : Hp} : ∀ ns : List Int, DpAll K H (ns.map V.int) (ns.map PyData.int)
  | [] => .nil
  | n :: ns => .cons (.int n) (dp_ints ns)
theorem alike_ints (ns : List Int) : PySem.W.AlikeAll (ns.map PyData.int) := by
  refine ⟨fun x hx y hy => ?_, fun x hx => ?_⟩
  · obtain ⟨i, _, rfl⟩ := List.mem_map.mp hx
    obtain ⟨j, _, rfl⟩ := List.mem_map.mp hy
    rfl
  · obtain ⟨i, _, rfl⟩ := List.mem_map.mp hx
    exact fun z => nomatch z
theorem depth_ints : ∀ ns : List Int, PyData.depthAll (ns.map PyData.int) = 0
  | [] => rfl
  | n :: ns => by
    show max (PyData.depth (.int n)) (PyData.depthAll (ns.map PyData.int)) = 0
    rw [depth_ints ns]; rfl
theorem cr_minA {X : Cx} (K : PySem.W.Frag) (hu : X.A.units + 64 < cLine) (hc : X.calm = true := by rfl) (hK : X.K = K := by rfl) : CallR X (.builtin "min") (rMinA K) := by
  subst hK
  intro pins s σ H vs us Q I r h
  obtain ⟨a, ns, rfl, hs, hne, q⟩ := h
  obtain ⟨x, xs, rfl⟩ : ∃ x xs, ns = x :: xs := by cases ns with | nil => exact absurd rfl hne | cons x xs => exact ⟨x, xs, rfl⟩
  have hu2 : X.A.units + 1 + PyData.depthAll (PyData.int x :: xs.map PyData.int) < cLine := by
    have : PyData.depthAll (PyData.int x :: xs.map PyData.int) = 0 := depth_ints (x :: xs)
    omega
  rw [Vals.ref1 r]
  rcases hs with hs | hs
  · obtain ⟨as, r1⟩ := Dp.reads I (.list ((x :: xs).map .int)) (.ref a) (.ref a) (.lst hs (dp_ints _)) rfl
    cases r1 with
    | list h1 h2 h3 h4 =>
      refine PySem.W.min_list_data (I.ok.hd hc) ⟨_, h1, h2, _, h3⟩ h4 (alike_ints (x :: xs)) hu2 fun i v h' tk bs hv hr hk => ⟨.int (mnL (x :: xs)), H, I.kept hk, ?_, q⟩
      rw [PySem.W.minD_ints, mnL_fold] at hr
      cases hr
      exact ⟨_, rfl⟩
  · obtain ⟨as, r1⟩ := Dp.reads I (.tuple ((x :: xs).map .int)) (.ref a) (.ref a) (.tup hs (dp_ints _)) rfl
    cases r1 with
    | tuple h1 h2 h3 h4 =>
      refine PySem.W.min_tuple_data (I.ok.hd hc) ⟨_, h1, h2, _, h3⟩ h4 (alike_ints (x :: xs)) hu2 fun i v h' tk bs hv hr hk => ⟨.int (mnL (x :: xs)), H, I.kept hk, ?_, q⟩
      rw [PySem.W.minD_ints, mnL_fold] at hr
      cases hr
      exact ⟨_, rfl⟩
theorem cr_maxA {X : Cx} (K : PySem.W.Frag) (hu : X.A.units + 64 < cLine) (hc : X.calm = true := by rfl) (hK : X.K = K := by rfl) : CallR X (.builtin "max") (rMaxA K) := by
  subst hK
  intro pins s σ H vs us Q I r h
  obtain ⟨a, ns, rfl, hs, hne, q⟩ := h
  obtain ⟨x, xs, rfl⟩ : ∃ x xs, ns = x :: xs := by cases ns with | nil => exact absurd rfl hne | cons x xs => exact ⟨x, xs, rfl⟩
  have hu2 : X.A.units + 1 + PyData.depthAll (PyData.int x :: xs.map PyData.int) < cLine := by
    have : PyData.depthAll (PyData.int x :: xs.map PyData.int) = 0 := depth_ints (x :: xs)
    omega
  rw [Vals.ref1 r]
  rcases hs with hs | hs
  · obtain ⟨as, r1⟩ := Dp.reads I (.list ((x :: xs).map .int)) (.ref a) (.ref a) (.lst hs (dp_ints _)) rfl
    cases r1 with
    | list h1 h2 h3 h4 =>
      refine PySem.W.max_list_data (I.ok.hd hc) ⟨_, h1, h2, _, h3⟩ h4 (alike_ints (x :: xs)) hu2 fun i v h' tk bs hv hr hk => ⟨.int (mxL (x :: xs)), H, I.kept hk, ?_, q⟩
      rw [PySem.W.maxD_ints, mxL_fold] at hr
      cases hr
      exact ⟨_, rfl⟩
  · obtain ⟨as, r1⟩ := Dp.reads I (.tuple ((x :: xs).map .int)) (.ref a) (.ref a) (.tup hs (dp_ints _)) rfl
    cases r1 with
    | tuple h1 h2 h3 h4 =>
      refine PySem.W.max_tuple_data (I.ok.hd hc) ⟨_, h1, h2, _, h3⟩ h4 (alike_ints (x :: xs)) hu2 fun i v h' tk bs hv hr hk => ⟨.int (mxL (x :: xs)), H, I.kept hk, ?_, q⟩
      rw [PySem.W.maxD_ints, mxL_fold] at hr
      cases hr
      exact ⟨_, rfl⟩
section
variable {K : PySem.W.Frag} {S : List Dat} {x : Sl} {ns : List Int}
theorem cd_minA (h : Seq S x (ns.map Dat.int)) (hne : ns ≠ []) : CallD K (rMinA K) [x] S (.int (mnL ns)) S := fun B H as vs c r Q q => by
  cases r with
  | cons r1 rr =>
    cases rr
    obtain ⟨a, k, ws, rfl, hw, rv⟩ := h.read c r1
    have := rv.ints
    subst this
    exact ⟨a, ns, rfl, sq_or hw, hne, q _ B H c Evo.refl (.int _)⟩
theorem cd_maxA (h : Seq S x (ns.map Dat.int)) (hne : ns ≠ []) : CallD K (rMaxA K) [x] S (.int (mxL ns)) S := fun B H as vs c r Q q => by
  cases r with
  | cons r1 rr =>
    cases rr
    obtain ⟨a, k, ws, rfl, hw, rv⟩ := h.read c r1
    have := rv.ints
    subst this
    exact ⟨a, ns, rfl, sq_or hw, hne, q _ B H c Evo.refl (.int _)⟩
end
/-! ### not xs as a value -/
theorem pe_notTK (K : PySem.W.Frag) {X : Cx} {a : Expr} {ta : TE} {pos : Pos} (ha : PE X a ta) (hK : X.K = K := by rfl) : PE X (.UnaryOp .Not a pos) (tNotT K ta) := by
  subst hK
  exact pe_notT ha
section
variable {K : PySem.W.Frag} {ta : TE} {env : Env1} {S S1 : List Dat} {x : Sl} {ds : List Dat}
theorem ev_notT (h : Ev K ta env S x S1) (hs : Seq S1 x ds) : Ev K (tNotT K ta) env S (.d (.bl ds.isEmpty)) S1 := fun B H as σ c g Q q => h B H as σ c g _ fun v B1 H1 c1 e1 r1 => by
  obtain ⟨a, k, vs, rfl, hq, hr⟩ := hs.read c1 r1
  refine ⟨!ds.isEmpty, ?_, by rw [Bool.not_not]; exact q _ B1 H1 c1 e1 (.bl _)⟩
  rw [← isEmpty_reps hr]
  cases k with
  | true => exact .inl ⟨vs, hq, rfl⟩
  | false => exact .inr (.inl ⟨vs, hq, rfl⟩)
end
/-! ### in, not in of lists and tuples of data -/
theorem u65 {k : Nat} {A : Around} (r : Room k A) : A.units + 65 < cLine := by have := r.un; omega
def rInA (K : PySem.W.Frag) (neg : Bool) : R2 := fun x y H Q => ∃ d ds, Dp K H x d ∧ (Dp K H y (.list ds) ∨ Dp K H y (.tuple ds)) ∧ SeqAt.shaped d = true ∧ PyData.canLayAll0 ds = true ∧ Q (.bl (neg != ds.any fun z => PyData.eqv z d)) H
theorem op_inAK (K : PySem.W.Frag) {X : Cx} (hu : X.A.units + 65 < cLine) (hK : X.K = K := by rfl) : OpR X (compareOp .In) (rInA K false) := by
  subst hK
  intro pins s σ H x y v u Q I rx ry h
  obtain ⟨d, ds, hd, he, sd, se, q⟩ := h
  obtain ⟨as, r1⟩ := Dp.reads I d x v hd rx
  rcases he with he | he
  · obtain ⟨bs, r2⟩ := Dp.reads I (.list ds) y u he ry
    exact SeqAt.in_list_reads r2 r1 se (SeqAt.canLay_of_shaped sd) (room_in_shaped sd hu) ⟨.bl _, H, I, rfl, by simpa using q⟩
  · obtain ⟨bs, r2⟩ := Dp.reads I (.tuple ds) y u he ry
    exact SeqAt.in_tuple_reads r2 r1 se (SeqAt.canLay_of_shaped sd) (room_in_shaped sd hu) ⟨.bl _, H, I, rfl, by simpa using q⟩
theorem op_notInAK (K : PySem.W.Frag) {X : Cx} (hu : X.A.units + 65 < cLine) (hK : X.K = K := by rfl) : OpR X (compareOp .NotIn) (rInA K true) := by
  subst hK
  intro pins s σ H x y v u Q I rx ry h
  obtain ⟨d, ds, hd, he, sd, se, q⟩ := h
  obtain ⟨as, r1⟩ := Dp.reads I d x v hd rx
  rcases he with he | he
  · obtain ⟨bs, r2⟩ := Dp.reads I (.list ds) y u he ry
    exact SeqAt.notIn_list_reads r2 r1 se (SeqAt.canLay_of_shaped sd) (room_in_shaped sd hu) ⟨.bl _, H, I, rfl, by simpa using q⟩
  · obtain ⟨bs, r2⟩ := Dp.reads I (.tuple ds) y u he ry
    exact SeqAt.notIn_tuple_reads r2 r1 se (SeqAt.canLay_of_shaped sd) (room_in_shaped sd hu) ⟨.bl _, H, I, rfl, by simpa using q⟩
section
variable {K : PySem.W.Frag} {S : List Dat} {x y : Sl} {d : Dat} {ds : List Dat} {neg : Bool}
theorem o_inA {m1 m2 : Nat} (h1 : PlS S x m1 d) (h2 : PlS S y m2 (.tup ds) ∨ PlS S y m2 (.lst ds)) (hm : m1 ≤ 64) : Op2 K (rInA K neg) x y S (.bl (neg != ds.any fun e => eqD e d)) := fun B H as v w c r1 r2 Q q => by
  have e : ∀ L : List Dat, ((pyAll L).any fun z => PyData.eqv z (py d)) = L.any fun e => eqD e d := fun L => by
    induction L with
    | nil => rfl
    | cons z L ih =>
      show (PyData.eqv (py z) (py d) || (pyAll L).any fun z => PyData.eqv z (py d)) = _
      rw [ih]; rfl
  have hl : PyData.canLayAll0 (pyAll ds) = true := by
    rcases h2 with h2 | h2
    · exact h2.1.lay.1
    · exact h2.1.lay.1
  refine ⟨py d, pyAll ds, h1.dp c r1, ?_, h1.1.shaped hm, hl, ?_⟩
  · rcases h2 with h2 | h2
    · exact .inr (h2.dp c r2)
    · exact .inl (h2.dp c r2)
  · rw [e]; exact q _ B H c Evo.refl (.bl _)
end
end RW

set_option Elab.async false
set_option linter.all false
set_option maxRecDepth 100000
set_option maxHeartbeats 4000000
namespace RW
open PySem PySem.Spec PyProof.Rows L2
open Evl (Ex)
/-! ### what is known only by what holds of it: arguments, new lists, tests, what is walked -/
def EvAE (K : PySem.W.Frag) (ta : TA) (env : Env1) (S : List Dat) (post : List Sl → List Dat → Prop) : Prop :=
  ∀ B H as σ, Ok K B H as S → EnvR K B as σ env → ∀ Q : List V → Hp → Prop, (∀ vs rs B' H' S', Ok K B' H' as S' → Evo B H as B' H' → RepSs K B' as vs rs → post rs S' → Q vs H') → ta σ H Q
def EvNE (K : PySem.W.Frag) (te : TE) (env : Env1) (S : List Dat) (post : List Dat → List Dat → Prop) : Prop :=
  ∀ B H as σ, Ok K B H as S → EnvR K B as σ env → ∀ Q : VK, (∀ p B' H' vs ds S', Ok K B' H' as S' → Evo B H as B' H' → Fresh H as p → B' p = none → H' p = some (.lst vs) → Reps K B' vs ds → post ds S' → Q (.ref p) H') → te σ H Q
def EvTE (K : PySem.W.Frag) (tt : TT) (env : Env1) (S : List Dat) (post : Bool → List Dat → Prop) : Prop :=
  ∀ B H as σ, Ok K B H as S → EnvR K B as σ env → ∀ Q : Bool → Hp → Prop, (∀ b B' H' S', Ok K B' H' as S' → Evo B H as B' H' → post b S' → Q b H') → tt σ H Q
def IterE (K : PySem.W.Frag) (wi : TI) (env : Env1) (S : List Dat) (post : List Dat → (List Addr → List Addr → List Dat → Prop) → List Dat → Prop) : Prop :=
  ∀ B H as σ, Ok K B H as S → EnvR K B as σ env → ∀ R : It → Hp → Prop, (∀ J B1 H1 ds G S1, Ok K B1 H1 as S1 → Evo B H as B1 H1 → post ds G S1 → WalkD K B1 J (G as) ds → R J H1) → wi σ H R
section
variable {K : PySem.W.Frag} {n : Nat} {te ta tb tc to ti tv : TE} {tt tu : TT} {tA tR : TA} {env env' : Env1} {S S1 S2 S3 : List Dat} {x y z : Sl} {d e : Dat} {ds es ds' : List Dat} {P P' : Post} {t u : TS} {r r' : R2}
  {B B0 B1 B2 B' Bk H H0 H1 H2 H' : Hp} {as as0 as1 : List Addr} {D : Ends} {σ : L2.St} {i j k : Nat} {p : Addr} {E : XK} {p1 p2 post : Sl → List Dat → Prop} {pA : List Sl → List Dat → Prop} {pN : List Dat → List Dat → Prop} {pT : Bool → List Dat → Prop}
/-! from the deterministic ones -/
theorem EvA.ofEv {rs : List Sl} (h : EvA K tA env S rs S1) : EvAE K tA env S (fun r T => r = rs ∧ T = S1) := fun B H as σ c g Q k =>
  h B H as σ c g Q fun vs B1 H1 c1 e1 r1 => k vs rs B1 H1 S1 c1 e1 r1 ⟨rfl, rfl⟩
theorem EvN.ofEv (h : EvN K te env S ds S1) : EvNE K te env S (fun r T => r = ds ∧ T = S1) := fun B H as σ c g Q k =>
  h B H as σ c g Q fun p B1 H1 vs c1 e1 hp hb hl r1 => k p B1 H1 vs ds S1 c1 e1 hp hb hl r1 ⟨rfl, rfl⟩
theorem EvT.ofEv {b : Bool} (h : EvT K tt env S b S1) : EvTE K tt env S (fun r T => r = b ∧ T = S1) := fun B H as σ c g Q k =>
  h B H as σ c g Q fun B1 H1 c1 e1 => k b B1 H1 S1 c1 e1 ⟨rfl, rfl⟩
theorem IterD.ofEv {wi : TI} {G : List Addr → List Addr → List Dat → Prop} (h : IterD K wi env S G ds S1) : IterE K wi env S (fun r G' T => r = ds ∧ G' = G ∧ T = S1) := fun B H as σ c g R k =>
  h B H as σ c g R fun J B1 H1 c1 e1 w => k J B1 H1 ds G S1 c1 e1 ⟨rfl, rfl, rfl⟩ w
theorem EvE.imp (h : EvE K te env S p1) (q : ∀ r T, p1 r T → post r T) : EvE K te env S post := fun B H as σ c g Q k =>
  h B H as σ c g Q fun v r B1 H1 T c1 e1 r1 hp => k v r B1 H1 T c1 e1 r1 (q r T hp)
theorem EvTE.imp {pT' : Bool → List Dat → Prop} (h : EvTE K tt env S pT) (q : ∀ r T, pT r T → pT' r T) : EvTE K tt env S pT' := fun B H as σ c g Q k =>
  h B H as σ c g Q fun b B1 H1 T c1 e1 hp => k b B1 H1 T c1 e1 (q b T hp)
theorem EvNE.imp {pN' : List Dat → List Dat → Prop} (h : EvNE K te env S pN) (q : ∀ r T, pN r T → pN' r T) : EvNE K te env S pN' := fun B H as σ c g Q k =>
  h B H as σ c g Q fun p B1 H1 vs ds T c1 e1 a b cc d hp => k p B1 H1 vs ds T c1 e1 a b cc d (q ds T hp)
theorem EvE.inEnv (e : env = env') (h : EvE K te env' S p1) : EvE K te env S p1 := e ▸ h
/-- one value, known -/
theorem Ev.e1 (h : Ev K te env S x S1) (q : post x S1) : EvE K te env S post := fun B H as σ c g Q k =>
  h B H as σ c g Q fun v B1 H1 c1 e1 r1 => k v x B1 H1 S1 c1 e1 r1 q
theorem EvT.e1 {b : Bool} (h : EvT K tt env S b S1) (q : pT b S1) : EvTE K tt env S pT := fun B H as σ c g Q k =>
  h B H as σ c g Q fun B1 H1 c1 e1 => k b B1 H1 S1 c1 e1 q
theorem EvN.e1 (h : EvN K te env S ds S1) (q : pN ds S1) : EvNE K te env S pN := fun B H as σ c g Q k =>
  h B H as σ c g Q fun p B1 H1 vs c1 e1 hp hb hl r1 => k p B1 H1 vs ds S1 c1 e1 hp hb hl r1 q
/-! ### expressions -/
theorem eae_nil (q : pA [] S) : EvAE K tNil env S pA := fun B H as σ c g Q k => k [] [] B H S c Evo.refl .nil q
theorem eae_cons (h : EvE K ta env S p1) (hr : ∀ x S1, p1 x S1 → EvAE K tA env S1 (fun xs T => pA (x :: xs) T)) : EvAE K (tCons ta tA) env S pA := fun B H as σ c g Q k =>
  h B H as σ c g _ fun v x B1 H1 S1 c1 e1 r1 hp => hr x S1 hp B1 H1 as σ c1 (g.mono e1.ex) _ fun vs xs B2 H2 S2 c2 e2 r2 hq => k _ (x :: xs) B2 H2 S2 c2 (e1.trans e2) (.cons (r1.mono e2.ex) r2) hq
theorem eae_cons1 (h : Ev K ta env S x S1) (hr : EvAE K tA env S1 (fun xs T => pA (x :: xs) T)) : EvAE K (tCons ta tA) env S pA := fun B H as σ c g Q k =>
  h B H as σ c g _ fun v B1 H1 c1 e1 r1 => hr B1 H1 as σ c1 (g.mono e1.ex) _ fun vs xs B2 H2 S2 c2 e2 r2 hq => k _ (x :: xs) B2 H2 S2 c2 (e1.trans e2) (.cons (r1.mono e2.ex) r2) hq
theorem eve_op {p2 : Sl → Sl → List Dat → Prop} (ha : EvE K ta env S p1) (hb : ∀ x S1, p1 x S1 → EvE K tb env S1 (p2 x)) (hr : ∀ x S1 y S2, p1 x S1 → p2 x y S2 → ∃ d, Op2 K r x y S2 d ∧ post (.d d) S2) : EvE K (tOp r ta tb) env S post := fun B H as σ c g Q k =>
  ha B H as σ c g _ fun v x B1 H1 S1 c1 e1 r1 hx => hb x S1 hx B1 H1 as σ c1 (g.mono e1.ex) _ fun w y B2 H2 S2 c2 e2 r2 hy => by
    obtain ⟨d, ho, hp⟩ := hr x S1 y S2 hx hy
    exact ho B2 H2 as v w c2 (r1.mono e2.ex) r2 _ fun u B3 H3 c3 e3 r3 => k u (.d d) B3 H3 S2 c3 ((e1.trans e2).trans e3) r3 hp
/-- the right one known -/
theorem eve_opL (ha : EvE K ta env S p1) (hb : ∀ x S1, p1 x S1 → ∃ y d, Ev K tb env S1 y S1 ∧ Op2 K r x y S1 d ∧ post (.d d) S1) : EvE K (tOp r ta tb) env S post := fun B H as σ c g Q k =>
  ha B H as σ c g _ fun v x B1 H1 S1 c1 e1 r1 hx => by
    obtain ⟨y, d, hb, ho, hp⟩ := hb x S1 hx
    exact hb B1 H1 as σ c1 (g.mono e1.ex) _ fun w B2 H2 c2 e2 r2 => ho B2 H2 as v w c2 (r1.mono e2.ex) r2 _ fun u B3 H3 c3 e3 r3 => k u (.d d) B3 H3 S1 c3 ((e1.trans e2).trans e3) r3 hp
/-- the left one known -/
theorem eve_opR (ha : Ev K ta env S x S1) (hb : EvE K tb env S1 p1) (ho : ∀ y S2, p1 y S2 → ∃ d, Op2 K r x y S2 d ∧ post (.d d) S2) : EvE K (tOp r ta tb) env S post := fun B H as σ c g Q k =>
  ha B H as σ c g _ fun v B1 H1 c1 e1 r1 => hb B1 H1 as σ c1 (g.mono e1.ex) _ fun w y B2 H2 S2 c2 e2 r2 hy => by
    obtain ⟨d, ho, hp⟩ := ho y S2 hy
    exact ho B2 H2 as v w c2 (r1.mono e2.ex) r2 _ fun u B3 H3 c3 e3 r3 => k u (.d d) B3 H3 S2 c3 ((e1.trans e2).trans e3) r3 hp
theorem eve_un {r : V → Hp → VK → Prop} (ha : EvE K ta env S p1) (hr : ∀ x S1, p1 x S1 → ∃ d, Op1 K r x S1 d ∧ post (.d d) S1) : EvE K (tUn r ta) env S post := fun B H as σ c g Q k =>
  ha B H as σ c g _ fun v x B1 H1 S1 c1 e1 r1 hx => by
    obtain ⟨d, ho, hp⟩ := hr x S1 hx
    exact ho B1 H1 as v c1 r1 _ fun u B3 H3 c3 e3 r3 => k u (.d d) B3 H3 S1 c3 (e1.trans e3) r3 hp
/-- f(..), f's result known by what holds of it -/
theorem eve_call {G : List Sl → List Dat → (Dat → List Dat → Prop) → Prop} (h : EvAE K tA env S pA) (hg : ∀ ss S1, pA ss S1 → ∃ po, G ss S1 po ∧ ∀ r T, po r T → post (.d r) T) : EvE K (tCall (SpE K G) [] E tA) env S post := fun B H as σ c g Q q =>
  h B H as σ c g _ fun vs ss B1 H1 S1 c1 e1 r1 hp => by
    obtain ⟨po, hg, hq⟩ := hg ss S1 hp
    exact ⟨B1, as, S1, ss, po, c1, by rw [List.append_nil]; exact r1, hg, fun v r B2 H2 S2 c2 e2 r2 hp => q v (.d r) B2 H2 S2 c2 (e1.trans e2) r2 (hq r S2 hp)⟩
/-- f(..), f's result told -/
theorem eve_callD {G : List Sl → List Dat → Dat → List Dat → Prop} (h : EvAE K tA env S pA) (hg : ∀ ss S1, pA ss S1 → ∃ d S2, G ss S1 d S2 ∧ post (.d d) S2) : EvE K (tCall (SpD K G) [] E tA) env S post := fun B H as σ c g Q q =>
  h B H as σ c g _ fun vs ss B1 H1 S1 c1 e1 r1 hp => by
    obtain ⟨d, S2, hg, hq⟩ := hg ss S1 hp
    exact ⟨B1, as, S1, ss, d, S2, c1, by rw [List.append_nil]; exact r1, hg, fun v B2 H2 c2 e2 r2 => q v (.d d) B2 H2 S2 c2 (e1.trans e2) r2 hq⟩
theorem eve_cb {r : List V → Hp → VK → Prop} (h : EvAE K tA env S pA) (hc : ∀ xs S1, pA xs S1 → ∃ d S2, CallD K r xs S1 d S2 ∧ post (.d d) S2) : EvE K (tCB r tA) env S post := fun B H as σ c g Q q =>
  h B H as σ c g _ fun vs xs B1 H1 S1 c1 e1 r1 hp => by
    obtain ⟨d, S2, hc, hq⟩ := hc xs S1 hp
    exact hc B1 H1 as vs c1 r1 Q fun u B2 H2 c2 e2 r2 => q u (.d d) B2 H2 S2 c2 (e1.trans e2) r2 hq
theorem eve_tup (h : EvAE K tA env S (fun xs T => ∃ ds, xs = ds.map Sl.d ∧ ds.length ≤ sizeLine ∧ post (.d (.tup ds)) T)) : EvE K (tTup tA) env S post := fun B H as σ c g Q q =>
  h B H as σ c g _ fun vs xs B1 H1 S1 c1 e1 r1 ⟨ds, ex, hl, hp⟩ => by
    subst ex
    exact ⟨by rw [r1.ds.length]; exact hl, fun p hn => q _ (.d (.tup ds)) (upd B1 p (.tup vs)) _ S1 (c1.new hn) (e1.trans (Evo.new c1 hn)) (.tup (.inl (.inl upd_same)) (r1.ds.mono (Evl.Ex.new (c1.Bnone hn)))) hp⟩
theorem ene_lst (h : EvAE K tA env S (fun xs T => ∃ ds, xs = ds.map Sl.d ∧ ds.length ≤ sizeLine ∧ pN ds T)) : EvNE K (tLst tA) env S pN := fun B H as σ c g Q q =>
  h B H as σ c g _ fun vs xs B1 H1 S1 c1 e1 r1 ⟨ds, ex, hl, hn⟩ => by
    subst ex
    exact ⟨by rw [r1.ds.length]; exact hl, fun p hp => evn_new c c1 e1 hp r1.ds fun p B' H' vs c2 e2 f2 b2 l2 r2 => q p B' H' vs ds S1 c2 e2 f2 b2 l2 r2 hn⟩
/-- a new list becomes known -/
theorem eve_N (h : EvNE K te env S (fun ds T => post (.d (.lst ds)) T)) : EvE K te env S post := fun B H as σ c g Q q =>
  h B H as σ c g _ fun p B1 H1 vs ds S1 c1 e1 hp hb hl r1 hq =>
    q _ (.d (.lst ds)) (upd B1 p (.lst vs)) H1 S1 (c1.know hl hb hp.1) ⟨e1.ex.trans (Evl.Ex.new hb), e1.fr, fun a o h nt => by rw [upd_ne (by rintro rfl; exact hp.2.no h nt)]; exact e1.gr a o h nt, e1.tp, e1.pr⟩ (.lst upd_same (r1.mono (Evl.Ex.new hb))) hq
theorem eve_if (h : EvTE K tt env S pT) (h1 : ∀ S1, pT true S1 → EvE K ta env S1 post) (h2 : ∀ S1, pT false S1 → EvE K tb env S1 post) : EvE K (tIf tt ta tb) env S post := fun B H as σ c g Q q =>
  h B H as σ c g _ fun b B1 H1 S1 c1 e1 hb => by
    cases b with
    | true => exact h1 S1 hb B1 H1 as σ c1 (g.mono e1.ex) Q fun v r B2 H2 S2 c2 e2 r2 => q v r B2 H2 S2 c2 (e1.trans e2) r2
    | false => exact h2 S1 hb B1 H1 as σ c1 (g.mono e1.ex) Q fun v r B2 H2 S2 c2 e2 r2 => q v r B2 H2 S2 c2 (e1.trans e2) r2
theorem eve_andV (h1 : EvE K ta env S p1) (hb : ∀ x S1, p1 x S1 → ∃ b, x = .d (.bl b) ∧ (b = false → post (.d (.bl false)) S1) ∧ (b = true → EvE K tb env S1 post)) : EvE K (tAndV ta tb) env S post := fun B H as σ c g Q q =>
  h1 B H as σ c g _ fun v x B1 H1 S1 c1 e1 r1 hx => by
    obtain ⟨b, rfl, h2, h3⟩ := hb x S1 hx
    cases r1
    refine ⟨b, rfl, ?_⟩
    cases b with
    | true => exact h3 rfl B1 H1 as σ c1 (g.mono e1.ex) Q fun v r B2 H2 S2 c2 e2 r2 => q v r B2 H2 S2 c2 (e1.trans e2) r2
    | false => exact q _ (.d (.bl false)) B1 H1 S1 c1 e1 (.bl false) (h2 rfl)
theorem eve_orV (h1 : EvE K ta env S p1) (hb : ∀ x S1, p1 x S1 → ∃ b, x = .d (.bl b) ∧ (b = true → post (.d (.bl true)) S1) ∧ (b = false → EvE K tb env S1 post)) : EvE K (tOrV ta tb) env S post := fun B H as σ c g Q q =>
  h1 B H as σ c g _ fun v x B1 H1 S1 c1 e1 r1 hx => by
    obtain ⟨b, rfl, h2, h3⟩ := hb x S1 hx
    cases r1
    refine ⟨b, rfl, ?_⟩
    cases b with
    | false => exact h3 rfl B1 H1 as σ c1 (g.mono e1.ex) Q fun v r B2 H2 S2 c2 e2 r2 => q v r B2 H2 S2 c2 (e1.trans e2) r2
    | true => exact q _ (.d (.bl true)) B1 H1 S1 c1 e1 (.bl true) (h2 rfl)
/-! ### tests -/
theorem ete_test (h : EvE K te env S (fun r T => ∃ b, r = .d (.bl b) ∧ pT b T)) : EvTE K (tTest te) env S pT := fun B H as σ c g Q q => h B H as σ c g _ fun v r B1 H1 S1 c1 e1 r1 ⟨b, e, hp⟩ => by
  subst e
  cases r1; exact ⟨b, rfl, q b B1 H1 S1 c1 e1 hp⟩
theorem ete_bl (h : EvE K ta env S (fun r T => ∃ b, r = .d (.bl b) ∧ pT b T)) : EvTE K (tTru K ta) env S pT := fun B H as σ c g Q q => h B H as σ c g _ fun v r B1 H1 S1 c1 e1 r1 ⟨b, e, hp⟩ => by
  subst e
  cases r1; exact ⟨b, rfl, q b B1 H1 S1 c1 e1 hp⟩
theorem ete_not (h : EvTE K tt env S (fun b T => pT (!b) T)) : EvTE K (tNot tt) env S pT := fun B H as σ c g Q q => h B H as σ c g _ fun b B1 H1 S1 c1 e1 hp => q (!b) B1 H1 S1 c1 e1 hp
theorem ete_and {pT' : Bool → List Dat → Prop} (h : EvTE K tt env S pT') (h1 : ∀ S1, pT' true S1 → EvTE K tu env S1 pT) (h2 : ∀ S1, pT' false S1 → pT false S1) : EvTE K (tAnd tt tu) env S pT := fun B H as σ c g Q q =>
  h B H as σ c g _ fun b B1 H1 S1 c1 e1 hb => by
    cases b with
    | true => exact h1 S1 hb B1 H1 as σ c1 (g.mono e1.ex) Q fun b B2 H2 S2 c2 e2 => q b B2 H2 S2 c2 (e1.trans e2)
    | false => exact q false B1 H1 S1 c1 e1 (h2 S1 hb)
theorem ete_or {pT' : Bool → List Dat → Prop} (h : EvTE K tt env S pT') (h1 : ∀ S1, pT' false S1 → EvTE K tu env S1 pT) (h2 : ∀ S1, pT' true S1 → pT true S1) : EvTE K (tOr tt tu) env S pT := fun B H as σ c g Q q =>
  h B H as σ c g _ fun b B1 H1 S1 c1 e1 hb => by
    cases b with
    | false => exact h1 S1 hb B1 H1 as σ c1 (g.mono e1.ex) Q fun b B2 H2 S2 c2 e2 => q b B2 H2 S2 c2 (e1.trans e2)
    | true => exact q true B1 H1 S1 c1 e1 (h2 S1 hb)
/-! ### what is walked -/
theorem ite_range {pI : List Dat → (List Addr → List Addr → List Dat → Prop) → List Dat → Prop} (h : EvAE K tA env S (fun xs T => ∃ m : Nat, xs = [.d (.int m)] ∧ m ≤ 1000 ∧ pI ((List.range m).map fun i => Dat.int (0 + (i : Nat))) G0 T)) : IterE K (iRng1 tA) env S pI := fun B H as σ c g R q => h B H as σ c g _ fun vs xs B1 H1 S1 c1 e1 r1 ⟨m, ex, hm, hp⟩ => by
  subst ex
  cases r1 with
  | cons r1 rr =>
    cases rr; cases r1
    refine ⟨(m : Int), rfl, by omega, by omega, q _ B1 H1 _ G0 S1 c1 e1 hp ?_⟩
    rw [← rng_map]
    exact walk_rng
theorem ite_seq {pI : List Dat → (List Addr → List Addr → List Dat → Prop) → List Dat → Prop} (h : EvE K te env S (fun r T => ∃ ds, (r = .d (.lst ds) ∨ r = .d (.tup ds)) ∧ pI ds G0 T)) : IterE K (iSeq K te) env S pI := fun B H as σ c g R q => h B H as σ c g _ fun v r B1 H1 S1 c1 e1 r1 ⟨ds, er, hp⟩ => by
  rcases er with rfl | rfl
  · cases r1 with
    | lst h r => exact ⟨_, true, rfl, ⟨_, Evl.sq_of (c1.ex _ _ h)⟩, q _ B1 H1 ds G0 S1 c1 e1 hp (walk_known (k := true) (Evl.sq_of h) r _)⟩
  · cases r1 with
    | tup h r => exact ⟨_, false, rfl, ⟨_, Evl.ex_t c1.ex h⟩, q _ B1 H1 ds G0 S1 c1 e1 hp (walk_known (k := false) h r _)⟩
/-- [e for g in wi if tt] -/
theorem ene_lc {wi : TI} {g : TG} {vs : List Nat} {pI : List Dat → (List Addr → List Addr → List Dat → Prop) → List Dat → Prop} (hw : IterE K wi env S pI) (Inv : List Dat → List Dat → Nat → List Dat → List Dat → Prop)
    (hI : ∀ ds G S1, pI ds G S1 → ds.length ≤ sizeLine ∧ Inv ds S1 0 [] S1 ∧ (∀ i acc S', Inv ds S1 i acc S' → ∀ as : List Addr, as.length = S1.length → as.length = S'.length → G as as S') ∧
      (∀ i d acc S', ds[i]? = some d → Inv ds S1 i acc S' → ∃ is f pT, TgD K g d is f ∧ (∀ i ∈ is, i ∈ vs) ∧ EvTE K tt (f (wipeE env vs)) S' pT ∧
        (∀ S2, pT true S2 → EvE K te (f (wipeE env vs)) S2 (fun r T => ∃ d, r = .d d ∧ Inv ds S1 (i + 1) (acc ++ [d]) T)) ∧ (∀ S2, pT false S2 → Inv ds S1 (i + 1) acc S2)) ∧
      (∀ acc S2, Inv ds S1 ds.length acc S2 → pN acc S2)) : EvNE K (tLc wi g tt te vs) env S pN := fun B H as σ c g0 Q q =>
  hw B H as σ c g0 _ fun J B1 H1 ds G S1 c1 e1 hpI w Dl hDl => by
    obtain ⟨hz, h0, hG, hs, hd⟩ := hI ds G S1 hpI
    have hD0 : Nn H Dl := e1.old hDl
    have c1' : Ok K B1 (upd H1 Dl (.lst [])) as S1 := c1.other (c1.Bnone hDl) (c1.fresh hDl)
    have e1' : Evo B H as B1 (upd H1 Dl (.lst [])) := e1.other hD0
    refine ⟨fun i mm H' => mm = ds.length - i ∧ i ≤ ds.length ∧ ∃ S' B' acc, Ok K B' H' as S' ∧ Evo B H as B' H' ∧ Ex B1 B' ∧ Acc K Dl B' H' as acc ∧ acc.length ≤ i ∧ Inv ds S1 i acc S', ⟨_, rfl, Nat.zero_le _, S1, B1, [], c1', e1', Evl.Ex.refl _, ⟨c1.Bnone hDl, c1.fresh hDl, [], upd_same, .nil⟩, Nat.zero_le _, h0⟩, ?_⟩
    rintro i mm H' ⟨rfl, hi, S', B', acc, c', e', ex', hacc, hal, hinv⟩
    have hg := hG i acc S' hinv as c1.len c'.len
    by_cases hlt : i < ds.length
    · refine .inr ⟨w.go B' H' as S' i ex' c' hg hlt, fun H2 => ∃ S2 B2 acc2, Ok K B2 H2 as S2 ∧ Evo B H as B2 H2 ∧ Ex B1 B2 ∧ Acc K Dl B2 H2 as acc2 ∧ acc2.length ≤ i + 1 ∧ Inv ds S1 (i + 1) acc2 S2, fun H2 hN => ⟨ds.length - (i + 1), by omega, rfl, hlt, hN⟩, fun x H2 hy => ?_⟩
      obtain ⟨B2, d, c2, e2, hd2, r2⟩ := w.yld B' H' as S' i x H2 ex' c' hg hlt hy
      obtain ⟨is, f, pT, tg, his, htt, ht, hf⟩ := hs i d acc S' hd2 hinv
      have gw : EnvR K B2 as (L2.wipe σ vs) (wipeE env vs) := ((g0.mono e1.ex).wipe vs).mono (ex'.trans e2.ex)
      refine tg B2 H2 as S' _ _ x c2 gw r2 _ fun σ3 g3 hw3 => ⟨?_, ?_⟩
      · rw [hw3 vs his]
        have : ∀ ws : List Nat, (∀ j ∈ ws, j ∈ vs) → L2.wipe (L2.wipe σ vs) ws = L2.wipe σ vs := by
          intro ws
          induction ws with
          | nil => intro _; rfl
          | cons j ws ih =>
            intro h
            show (L2.wipe (L2.wipe σ vs) ws).set j none = L2.wipe σ vs
            have e0 : L2.wipe (L2.wipe σ vs) ws = L2.wipe σ vs := ih fun k hk => h k (List.mem_cons_of_mem _ hk)
            rw [e0]
            have hj := h j List.mem_cons_self
            have key : ∀ (us : List Nat), j ∈ us → (L2.wipe σ us).set j none = L2.wipe σ us := by
              intro us
              induction us with
              | nil => intro h; cases h
              | cons k us ih =>
                intro hk
                unfold L2.wipe
                by_cases hj : j = k
                · subst hj; rw [List.set_set]
                · rw [List.set_comm _ _ (fun z => hj z.symm)]
                  rw [ih ((List.mem_cons.mp hk).resolve_left hj)]
            exact key vs hj
        exact this vs fun _ h => h
      · refine htt B2 H2 as σ3 c2 g3 _ fun b B3 H3 S2 c3 e3 hb => ?_
        have ac3 := (hacc.step e2).step e3
        have e03 := (e'.trans e2).trans e3
        have ex3 := (ex'.trans e2.ex).trans e3.ex
        cases b with
        | false => exact ⟨S2, B3, acc, c3, e03, ex3, ac3, by omega, hf S2 hb⟩
        | true =>
          show te σ3 H3 _
          refine ht S2 hb B3 H3 as σ3 c3 (g3.mono e3.ex) _ fun v r B4 H4 S3 c4 e4 r4 hr4 => ?_
          obtain ⟨d, er, hinv'⟩ := hr4
          subst er
          have ac4 := ac3.step e4
          obtain ⟨ws, hw4, hl4, ac5⟩ := ac4.snoc r4
          refine ⟨ws, hw4, by rw [hl4]; omega, S3, B4, acc ++ [d], c4.other ac4.nb ac4.na, (e03.trans e4).other hD0, ex3.trans e4.ex, ac5, by rw [List.length_append]; simp; omega, hinv'⟩
    · have e : i = ds.length := by omega
      subst e
      have hpn := hd acc S' hinv
      obtain ⟨ws, hw4, hr4⟩ := hacc.at_
      exact .inl ⟨w.stop B' H' as S' ex' c' hg, q Dl B' H' ws acc S' c' e' ⟨hacc.na, hD0⟩ hacc.nb hw4 hr4 hpn⟩
/-! ### statements -/
theorem sp_setCE (h : EvNE K te env S pN) (q : ∀ ds S1, pN ds S1 → SP K n u (env.set i (some (.c S1.length))) (S1 ++ [.lst ds]) P) : SP K n (tSeq (tAsg te (gName i)) u) env S P := fun B0 H0 as0 Bk B H as σ hl f c g D m =>
  h B H as σ c g _ fun p B1 H1 vs ds S1 c1 e1 hp hb h1 r1 hn => by
    have hpa := hp.1
    refine q ds S1 hn B0 H0 as0 Bk B1 H1 (as ++ [p]) _ hl ((f.step e1).push (f.evo.oldN hp.2)) (c1.push hb hpa (.ofL h1 r1)) (((g.mono e1.ex).grow).set i ?_) D m
    exact ⟨p, by rw [← c1.len]; simp, rfl⟩
theorem sp_parE (h : EvAE K tA env S pA) (q : ∀ rs S1, pA rs S1 → ∃ x y, rs = [x, y] ∧ SP K n u ((env.set i (some x)).set j (some y)) S1 P) : SP K n (tSeq (tPar i j tA) u) env S P := fun B0 H0 as0 Bk B H as σ hl f c g D m =>
  h B H as σ c g _ fun vs rs B1 H1 S1 c1 e1 r1 hp => by
    obtain ⟨x, y, rfl, k⟩ := q rs S1 hp
    cases r1 with
    | cons r1 rr =>
      cases rr with
      | cons r2 rr =>
        cases rr
        exact ⟨_, _, rfl, k B0 H0 as0 Bk B1 H1 as _ hl (f.step e1) c1 (((g.mono e1.ex).set i r1).set j r2) D m⟩
theorem sp_dropE (h : EvE K te env S post) (q : ∀ r S1, post r S1 → SP K n u env S1 P) : SP K n (tSeq (tDrop te) u) env S P := fun B0 H0 as0 Bk B H as σ hl f c g D m =>
  h B H as σ c g _ fun v r B1 H1 S1 c1 e1 r1 hp => q r S1 hp B0 H0 as0 Bk B1 H1 as _ hl (f.step e1) c1 (g.mono e1.ex) D m
theorem sp_ifE (h : EvTE K tt env S pT) (h1 : ∀ S1, pT true S1 → SP K n t env S1 P) (h2 : ∀ S1, pT false S1 → SP K n u env S1 P) : SP K n (tIfS tt t u) env S P := fun B0 H0 as0 Bk B H as σ hl f c g D m =>
  h B H as σ c g _ fun b B1 H1 S1 c1 e1 hb => by
    cases b with
    | true => exact h1 S1 hb B0 H0 as0 Bk B1 H1 as _ hl (f.step e1) c1 (g.mono e1.ex) D m
    | false => exact h2 S1 hb B0 H0 as0 Bk B1 H1 as _ hl (f.step e1) c1 (g.mono e1.ex) D m
theorem sp_ifqE {v : TS} (h : EvTE K tt env S pT) (h1 : ∀ S1, pT true S1 → SP K n (tSeq t v) env S1 P) (h2 : ∀ S1, pT false S1 → SP K n (tSeq u v) env S1 P) : SP K n (tSeq (tIfS tt t u) v) env S P := fun B0 H0 as0 Bk B H as σ hl f c g D m =>
  h B H as σ c g _ fun b B1 H1 S1 c1 e1 hb => by
    cases b with
    | true => exact h1 S1 hb B0 H0 as0 Bk B1 H1 as _ hl (f.step e1) c1 (g.mono e1.ex) D m
    | false => exact h2 S1 hb B0 H0 as0 Bk B1 H1 as _ hl (f.step e1) c1 (g.mono e1.ex) D m
/-- xs[i] = e, i by what holds of it -/
theorem sp_setitemE (h : Ev K te env S (.d d) S1) (ho : Ev K to env S1 (.c k) S2) (hi : EvE K ti env S2 post) (q : ∀ r S3, post r S3 → ∃ (iv : Int) (j : Nat) (ds : List Dat), r = .d (.int iv) ∧ S3[k]? = some (.lst ds) ∧ ixN ds.length iv = some j ∧ SP K n u env (S3.set k (.lst (ds.set j d))) P) :
    SP K n (tSeq (tAsg te (gSub to ti rSetL)) u) env S P := fun B0 H0 as0 Bk B H as σ hl f c g D m =>
  h B H as σ c g _ fun v B1 H1 c1 e1 r1 => ho B1 H1 as σ c1 (g.mono e1.ex) _ fun w B2 H2 c2 e2 r2 => hi B2 H2 as σ c2 (g.mono (e1.trans e2).ex) _ fun w3 r3 B3 H3 S3 c3 e3 rr3 hp3 => by
    obtain ⟨iv, j, ds, rfl, hs, hj, k3⟩ := q r3 S3 hp3
    obtain ⟨p, hp, rfl⟩ := r2
    cases rr3
    obtain ⟨vs, hv, rv⟩ := (c3.cells k p _ hp hs).2.lst
    have e03 := ((e1.trans e2).trans e3).trans (Evo.setc (o := .lst (vs.set j v)) (List.mem_of_getElem? hp) hv (fun _ z => nomatch z))
    exact ⟨p, vs, iv, j, rfl, rfl, hv, by rw [rv.length]; exact hj, k3 B0 H0 as0 Bk B3 _ as σ hl (f.step e03) (c3.setc hp (show CellO K B3 (.lst _) (.lst _) from Reps.set j (Rep.mono (e2.trans e3).ex r1) rv)) (g.mono e03.ex) D m⟩
theorem sp_forE {wi : TI} {g : TG} {tb : TS} {pI : List Dat → (List Addr → List Addr → List Dat → Prop) → List Dat → Prop} (hw : IterE K wi env S pI)
    (hI : ∀ ds G S1, pI ds G S1 → ∃ Inv : Nat → Env1 → List Dat → Prop, Inv 0 env S1 ∧ (∀ i env' S' as as2, Inv i env' S' → as.length = S1.length → as2.length = S'.length → as2.take n = as.take n → G as as2 S') ∧
      (∀ i d env' S', ds[i]? = some d → Inv i env' S' → ∃ is f, TgD K g d is f ∧ SP K n tb (f env') S' { P with nx := Inv (i + 1), ct := Inv (i + 1), bk := P.nx }) ∧
      (∀ env' S', Inv ds.length env' S' → P.nx env' S')) : SP K n (tFor wi g tb) env S P := fun B0 H0 as0 Bk B H as σ hl f0 c g0 D m =>
  hw B H as σ c g0 _ fun J B1 H1 ds G S1 c1 e1 hpI w => by
    obtain ⟨Inv, h0, hG, hs, hd⟩ := hI ds G S1 hpI
    subst hl
    have f1 := f0.step e1
    refine ⟨fun i mm σ' H' => mm = ds.length - i ∧ i ≤ ds.length ∧ ∃ env' S' B' as', Fr B0 H0 as0 B1 B' H' as' ∧ Ok K B' H' as' S' ∧ EnvR K B' as' σ' env' ∧ Inv i env' S', ⟨_, rfl, Nat.zero_le _, env, S1, B1, as, ⟨Evl.Ex.refl _, f1.base, f1.evo, f1.loc⟩, c1, g0.mono e1.ex, h0⟩, ?_⟩
    rintro i mm σ' H' ⟨rfl, hi, env', S', B', as', f', c', g', hinv⟩
    have ex' := f'.kn
    have hg := hG i env' S' as as' hinv c1.len c'.len (by rw [f'.base, f1.base])
    by_cases hlt : i < ds.length
    · refine .inr ⟨w.go B' H' as' S' i ex' c' hg hlt, fun σ2 H2 => ∃ env2 S2 B2 as2, Fr B0 H0 as0 B1 B2 H2 as2 ∧ Ok K B2 H2 as2 S2 ∧ EnvR K B2 as2 σ2 env2 ∧ Inv (i + 1) env2 S2, fun σ2 H2 hN => ⟨ds.length - (i + 1), by omega, rfl, hlt, hN⟩, fun x H2 hy => ?_⟩
      obtain ⟨B2, d, c2, e2, hd2, r2⟩ := w.yld B' H' as' S' i x H2 ex' c' hg hlt hy
      obtain ⟨is, f, tg, hbody⟩ := hs i d env' S' hd2 hinv
      refine tg B2 H2 as' S' σ' env' x c2 (g'.mono e2.ex) r2 _ fun σ3 g3 _ => ?_
      have f2 := f'.step e2
      refine hbody B0 H0 as0 B1 B2 H2 as' σ3 rfl f2 c2 g3 _ ⟨?_, m.rt, ?_, ?_, m.ok⟩
      · exact fun env4 S4 B4 H4 as4 σ4 f4 c4 g4 p4 => ⟨env4, S4, B4, as4, f4, c4, g4, p4⟩
      · exact fun env4 S4 B4 H4 as4 σ4 f4 c4 g4 p4 => m.nx env4 S4 B4 H4 as4 σ4 ⟨f1.kn.trans f4.kn, f4.base, f4.evo, f4.loc⟩ c4 g4 p4
      · exact fun env4 S4 B4 H4 as4 σ4 f4 c4 g4 p4 => ⟨env4, S4, B4, as4, f4, c4, g4, p4⟩
    · have e : i = ds.length := by omega
      subst e
      exact .inl ⟨w.stop B' H' as' S' ex' c' hg, m.nx env' S' B' H' as' σ' ⟨f1.kn.trans f'.kn, f'.base, f'.evo, f'.loc⟩ c' g' (hd env' S' hinv)⟩
end
end RW

set_option Elab.async false
set_option linter.all false
set_option maxRecDepth 100000
set_option maxHeartbeats 4000000
namespace RW
open PySem PySem.Spec PyProof.Rows L2
open Evl (Ex)
/-! ### keys without doubles, sorted -/
def keysF (rs : List (List Int)) : List (List Int) := rs.foldl insK []
theorem keysF_add (rs : List (List Int)) (r : List Int) : keysF (rs ++ [r]) = insK (keysF rs) r := by unfold keysF; rw [List.foldl_append]; rfl
theorem insK_mem {ks : List (List Int)} {k x : List Int} : x ∈ insK ks k ↔ x ∈ ks ∨ x = k := by
  unfold insK
  split
  · next h => exact ⟨.inl, fun z => z.elim id fun e => e ▸ h⟩
  · simp
theorem insK_nd {ks : List (List Int)} {k : List Int} (h : ks.Nodup) : (insK ks k).Nodup := by
  unfold insK
  split
  · exact h
  · next hk => exact List.nodup_append.mpr ⟨h, by simp, fun a ha b hb => by rw [List.mem_singleton.mp hb]; rintro rfl; exact hk ha⟩
theorem insK_len {ks : List (List Int)} {k : List Int} : (insK ks k).length ≤ ks.length + 1 := by
  unfold insK; split <;> simp
theorem keys_ok : ∀ (rs ks : List (List Int)), ks.Nodup → (rs.foldl insK ks).Nodup ∧ (∀ x, x ∈ rs.foldl insK ks ↔ x ∈ ks ∨ x ∈ rs) ∧ (rs.foldl insK ks).length ≤ ks.length + rs.length
  | [], ks, h => ⟨h, fun x => by simp, by simp⟩
  | r :: rs, ks, h => by
    obtain ⟨h1, h2, h3⟩ := keys_ok rs (insK ks r) (insK_nd h)
    refine ⟨h1, fun x => ?_, ?_⟩
    · rw [List.foldl_cons, h2, insK_mem, List.mem_cons, or_assoc]
    · rw [List.foldl_cons, List.length_cons]
      have := insK_len (ks := ks) (k := r)
      omega
def sortF (ks : List (List Int)) : List (List Int) := ks.mergeSort fun a b => decide (RwS.rk ks a ≤ RwS.rk ks b)
theorem sortF_perm (ks : List (List Int)) : (sortF ks).Perm ks := List.mergeSort_perm _ _
theorem sortF_pw {ks : List (List Int)} {n : Nat} (hl : ∀ r ∈ ks, r.length = n) : (sortF ks).Pairwise fun x y => RwS.lx y x = false := by
  have h := List.pairwise_mergeSort (le := fun a b => decide (RwS.rk ks a ≤ RwS.rk ks b)) (fun a b c h1 h2 => by simp only [decide_eq_true_eq] at *; omega) (fun a b => by simp only [Bool.or_eq_true, decide_eq_true_eq]; omega) ks
  refine List.Pairwise.imp_of_mem (fun {x y} hx hy hxy => ?_) h
  have hx := (sortF_perm ks).mem_iff.mp hx
  have hy := (sortF_perm ks).mem_iff.mp hy
  have := RwS.rk_lt hy (y := x) (by rw [hl _ hx, hl _ hy])
  cases e : RwS.lx y x with
  | false => rfl
  | true =>
    have := this.mp e
    have hxy : RwS.rk ks x ≤ RwS.rk ks y := of_decide_eq_true hxy
    omega
theorem sortF_uniq {ks : List (List Int)} {n : Nat} (hl : ∀ r ∈ ks, r.length = n) (rs : List (List Int)) (hp : rs.Perm ks) (hw : rs.Pairwise fun x y => RwS.lx y x = false) : rs = sortF ks := by
  refine List.Perm.eq_of_pairwise (le := fun x y => RwS.lx y x = false) (fun a b ha hb h1 h2 => ?_) hw (sortF_pw hl) (hp.trans (sortF_perm ks).symm)
  have la := hl _ (hp.mem_iff.mp ha)
  have lb := hl _ ((sortF_perm ks).mem_iff.mp hb)
  rcases RwS.lx_tri (x := a) (y := b) (by omega) with h | h | h
  · rw [h] at h2; cases h2
  · exact h
  · rw [h] at h1; cases h1
theorem sortF_asc {ks : List (List Int)} {n : Nat} (nd : ks.Nodup) (hl : ∀ r ∈ ks, r.length = n) : (sortF ks).Pairwise fun x y => RwS.lx x y = true := by
  have hn : (sortF ks).Nodup := (sortF_perm _).nodup_iff.mpr nd
  refine List.Pairwise.imp_of_mem (fun {x y} hx hy hxy => ?_) ((sortF_pw hl).and hn)
  have hx := (sortF_perm ks).mem_iff.mp hx
  have hy := (sortF_perm ks).mem_iff.mp hy
  rcases RwS.lx_tri (x := x) (y := y) (by rw [hl _ hx, hl _ hy]) with h | h | h
  · exact h
  · exact absurd h hxy.2
  · rw [h] at hxy; cases hxy.1
/-! ### what is drawn from -/
abbrev Vt := Int × Int × Int
def vatD (v : Vt) : Dat := .lst [.int v.1, .int v.2.1, .int v.2.2]
theorem set_get {S : List Dat} {k : Nat} {d e : Dat} (h : S[k]? = some d) : (S.set k e)[k]? = some e := List.getElem?_set_self (List.getElem?_eq_some_iff.mp h).1
theorem set_id {S : List Dat} {k : Nat} {d : Dat} (h : S[k]? = some d) : S.set k d = S := by
  obtain ⟨hl, e⟩ := List.getElem?_eq_some_iff.mp h
  rw [← e]; exact List.set_getElem_self hl
section
variable {S : List Dat} {k : Nat} {x x' y y' : Dat}
theorem gk (h : k < S.length) : (S.set k x ++ [y])[k]? = some x := by
  rw [List.getElem?_append_left (by simpa using h), List.getElem?_set_self h]
theorem gn : (S.set k x ++ [y])[S.length]? = some y := by
  rw [List.getElem?_append_right (by simp)]
  simp
theorem sk (h : k < S.length) : (S.set k x ++ [y]).set k x' = S.set k x' ++ [y] := by
  rw [List.set_append_left _ _ (by simpa using h), List.set_set]
theorem sn : (S.set k x ++ [y]).set S.length y' = S.set k x ++ [y'] := by
  rw [List.set_append_right _ _ (by simp)]
  simp
end
theorem atI_n {α : Type} {xs : List α} {p : Nat} (h : p < xs.length) : atI xs (p : Int) = some xs[p] := by
  unfold atI
  rw [ixN_of h]
  exact List.getElem?_eq_getElem h
theorem op2_ixS {K : PySem.W.Frag} {S : List Dat} {ns : List Int} {i : Int} {u : Int} (h : atI (ns.map V.int) i = some (V.int u)) : Op2 K (rIx K) (.d (.scr ns)) (.d (.int i)) S (.int u) := fun B H as v w c h1 h2 Q q => by
  cases h2
  cases h1 with
  | scr h1 => exact .inl ⟨_, _, i, _, rfl, rfl, Evl.ex_l c.ex h1, h, q _ B H c Evo.refl (.int u)⟩
theorem raw_set {K : PySem.W.Frag} {te : TE} {env : Env1} {S S1 : List Dat} {x : Sl} {i : Nat} {u : TS} {D : Ends} {B H : Hp} {as : List Addr} {σ : L2.St} (h : Ev K te env S x S1) (c : Ok K B H as S) (g : EnvR K B as σ env)
    (q : ∀ B1 H1 v, Ok K B1 H1 as S1 → Evo B H as B1 H1 → EnvR K B1 as (σ.set i (some v)) (env.set i (some x)) → u D (σ.set i (some v)) H1) : tSeq (tAsg te (gName i)) u D σ H :=
  h B H as σ c g _ fun v B1 H1 c1 e1 r1 => q B1 H1 v c1 e1 ((g.mono e1.ex).set i r1)
theorem raw_retN {K : PySem.W.Frag} {te : TE} {env : Env1} {S S1 ds : List Dat} {D : Ends} {B H : Hp} {as : List Addr} {σ : L2.St} (h : EvN K te env S ds S1) (c : Ok K B H as S) (g : EnvR K B as σ env)
    (q : ∀ p B' H' vs, Ok K B' H' as S1 → Evo B H as B' H' → Fresh H as p → B' p = none → H' p = some (.lst vs) → Reps K B' vs ds → D.rt (.ref p) H') : tRet te D σ H := h B H as σ c g _ q
/-- a drawn number, and what follows -/
def gDraw (ss : List Sl) (S : List Dat) (post : Dat → List Dat → Prop) : Prop := ∃ (k : Nat) (v : Vt) (t : Int), ss = [.c k, .d (.int t)] ∧ S[k]? = some (vatD v) ∧ 0 < t ∧ t < 2 ^ 100 ∧ post = fun r T => ∃ i v', r = .int i ∧ 0 ≤ i ∧ i < t ∧ T = S.set k (vatD v')
/-- one of several, drawn -/
def gPick (ss : List Sl) (S : List Dat) (post : Dat → List Dat → Prop) : Prop := ∃ (k : Nat) (v : Vt) (d : Dat) (ds : List Dat), ss = [.c k, .d d] ∧ (d = .lst ds ∨ d = .tup ds) ∧ S[k]? = some (vatD v) ∧ ds ≠ [] ∧ ds.length ≤ 100000 ∧ post = fun r T => r ∈ ds ∧ ∃ v', T = S.set k (vatD v')
def gVat (ss : List Sl) (S : List Dat) (r : List Dat) (S' : List Dat) (vatF : List Int → Nat → Vt) : Prop := ∃ (ns : List Int) (i : Nat), ss = [.d (.scr ns), .d (.int i)] ∧ r = [.int (vatF ns i).1, .int (vatF ns i).2.1, .int (vatF ns i).2.2] ∧ S' = S
section
variable {K : PySem.W.Frag} {tA : TA} {env : Env1} {S S1 : List Dat} {ss : List Sl} {post : Sl → List Dat → Prop} {E : XK}
/-- f(..), the arguments told, the result by what holds of it -/
theorem eve_callA {G : List Sl → List Dat → (Dat → List Dat → Prop) → Prop} {po : Dat → List Dat → Prop} (h : EvA K tA env S ss S1) (hg : G ss S1 po) (q : ∀ r T, po r T → post (.d r) T) : EvE K (tCall (SpE K G) [] E tA) env S post :=
  eve_call (EvA.ofEv h) fun ss' S1' ⟨e1, e2⟩ => ⟨po, by rw [e1, e2]; exact hg, q⟩
theorem eve_callDA {G : List Sl → List Dat → Dat → List Dat → Prop} {d : Dat} {S2 : List Dat} (h : EvA K tA env S ss S1) (hg : G ss S1 d S2) (q : post (.d d) S2) : EvE K (tCall (SpD K G) [] E tA) env S post := (ev_call h hg).e1 q
end
section
variable {K : PySem.W.Frag} {n : Nat} {te to ti : TE} {tA : TA} {env : Env1} {S S1 S2 S3 : List Dat} {d : Dat} {P : Post} {k i : Nat} {u : TS}
theorem IterE.imp {wi : TI} {p q : List Dat → (List Addr → List Addr → List Dat → Prop) → List Dat → Prop} (h : IterE K wi env S p) (hq : ∀ ds G T, p ds G T → q ds G T) : IterE K wi env S q := fun B H as σ c g R kk =>
  h B H as σ c g R fun J B1 H1 ds G S1 c1 e1 hp w => kk J B1 H1 ds G S1 c1 e1 (hq ds G S1 hp) w
/-- a comprehension whose elements are drawn one after another -/
theorem ene_vat {α : Type} (F : α → Dat) (p : α → Prop) {pI : List Dat → Prop} {wi : TI} {g : TG} {vs is : List Nat} {f : Dat → Env1 → Env1}
    (hw : IterE K wi env S (fun ds G T => pI ds ∧ G = G0 ∧ ∃ v, T = S.set k (vatD v))) (hl : ∀ ds, pI ds → ds.length ≤ sizeLine)
    (hs : ∀ ds d v, pI ds → d ∈ ds → TgD K g d is (f d) ∧ (∀ i ∈ is, i ∈ vs) ∧ EvE K te (f d (wipeE env vs)) (S.set k (vatD v)) (fun r T => ∃ a v', r = .d (F a) ∧ p a ∧ T = S.set k (vatD v'))) :
    EvNE K (tLc wi g tYes te vs) env S (fun rs T => ∃ (ds : List Dat) (as : List α) (v' : Vt), pI ds ∧ rs = as.map F ∧ as.length = ds.length ∧ (∀ a ∈ as, p a) ∧ T = S.set k (vatD v')) := by
  refine ene_lc hw (fun ds S1 i acc S' => ∃ (as : List α) (v' : Vt), acc = as.map F ∧ as.length = i ∧ (∀ a ∈ as, p a) ∧ S' = S.set k (vatD v')) fun ds G S1 ⟨hp, hG, v0, hv0⟩ => ⟨hl ds hp, ⟨[], v0, rfl, rfl, fun a h => (List.not_mem_nil h).elim, hv0⟩, fun _ _ _ _ _ _ _ => by rw [hG]; trivial, fun i d acc S' hd ⟨as, v, e1, e2, e3, e4⟩ => ?_, fun acc S2 ⟨as, v, e1, e2, e3, e4⟩ => ⟨ds, as, v, hp, e1, e2, e3, e4⟩⟩
  obtain ⟨tg, his, he⟩ := hs ds d v hp (List.mem_of_getElem? hd)
  subst e4
  refine ⟨is, f d, fun b T => b = true ∧ T = S.set k (vatD v), tg, his, et_yes.ofEv, fun S2 h => ?_, fun S2 h => by cases h.1⟩
  rw [h.2]
  refine he.imp fun r T ⟨a, v', h1, h2, h3⟩ => ⟨F a, h1, as ++ [a], v', by rw [e1, List.map_append]; rfl, by rw [List.length_append, e2]; rfl, fun b hb => ?_, h3⟩
  rcases List.mem_append.mp hb with hb | hb
  · exact e3 b hb
  · rw [List.mem_singleton.mp hb]; exact h2
/-- d[tuple(xs)] = e, xs a new list of numbers, known by what holds of it -/
theorem sp_stD1E {pN : List Dat → List Dat → Prop} (h : Ev K te env S (.d d) S1) (ho : Ev K to env S1 (.c k) S2) (hx : EvNE K ti env S2 pN) (hq : ∀ ds S3, pN ds S3 → ∃ (ns : List Int) (ks : List (List Int)), ds = ns.map Dat.int ∧ S3[k]? = some (.dic ks) ∧ ks.length < sizeLine ∧ P.nx env (S3.set k (.dic (insK ks ns)))) :
    SP K n (tAsg te (gSub to (tCB (rTupD K) (tCons ti tNil)) rSetD)) env S P := fun B0 H0 as0 Bk B H as σ hl0 f0 c g D m =>
  h B H as σ c g _ fun v B1 H1 c1 e1 r1 => ho B1 H1 as σ c1 (g.mono e1.ex) _ fun w B2 H2 c2 e2 r2 => hx B2 H2 as σ c2 (g.mono (e1.trans e2).ex) _ fun l B3 H3 vs ds S3 c3 e3 hl2 hb3 hl3 r3 hp3 => by
    obtain ⟨ns, ks, rfl, hs, hl, hq⟩ := hq ds S3 hp3
    obtain ⟨p, hp, rfl⟩ := r2
    have ei := r3.ints
    subst ei
    refine ⟨l, _, rfl, .inl ⟨Evl.sq_of hl3, fun tp htp => ?_⟩⟩
    have c4 := c3.new (o := .tup (ns.map V.int)) htp
    have e4 := Evo.new (o := .tup (ns.map V.int)) c3 htp
    obtain ⟨kvs, hkv, hks⟩ := (c4.cells k p _ hp hs).2.dic
    have e05 := (((e1.trans e2).trans e3).trans e4).trans (Evo.setc (o := .dT (putK kvs (ns.map Sum.inl) v)) (List.mem_of_getElem? hp) hkv (fun _ z => nomatch z))
    refine ⟨p, _, rfl, .inr ⟨kvs, ns.map Sum.inl, tp, hkv, rfl, by rw [key_ints]; exact upd_same, ?_, rfl⟩, ?_⟩
    · have := congrArg List.length hks
      rw [List.length_map, List.length_map] at this
      omega
    · exact m.nx _ _ _ _ as σ (f0.step e05) (c4.setc hp (show CellO K _ (.dT _) (.dic _) from putK_keys hks)) (g.mono e05.ex) hq
end
theorem call_isiK {X : Cx} (K : PySem.W.Frag) (hK : X.K = K := by rfl) : CallR X (.builtin "isinstance") (rIsi K) := by
  subst hK
  exact call_isi
section
variable {K : PySem.W.Frag} {n : Nat} {te to : TE} {env : Env1} {S S1 : List Dat} {P : Post} {k i : Nat} {post post' : Sl → List Dat → Prop} {pN : List Dat → List Dat → Prop}
/-- xs.append(e), e by what holds of it -/
theorem ev_appendE (ho : Ev K to env S (.c k) S1) (h : EvE K te env S1 post) (h1 : ∃ es, S1[k]? = some (.lst es)) (q : ∀ r T, post r T → ∃ d ds, r = .d d ∧ T[k]? = some (.lst ds) ∧ ds.length < sizeLine ∧ post' (.d .non) (T.set k (.lst (ds ++ [d])))) :
    EvE K (tBM K "list" rAppend to (tCons te tNil)) env S post' := fun B H as σ c g Q q0 =>
  ho B H as σ c g _ fun v B1 H1 c1 e1 r1 => by
    obtain ⟨p, hp, rfl⟩ := r1
    obtain ⟨es, hes⟩ := h1
    obtain ⟨ws, hw, rw'⟩ := (c1.cells k p _ hp hes).2.lst
    refine ⟨.inl ⟨rfl, ws, Evl.sq_of hw⟩, h B1 H1 as σ c1 (g.mono e1.ex) _ fun v r B2 H2 T c2 e2 r2 hp2 => ?_⟩
    obtain ⟨d, ds, rfl, hs, hl, hq⟩ := q r T hp2
    obtain ⟨vs, hv, rv⟩ := (c2.cells k p _ hp hs).2.lst
    exact ⟨p, vs, v, rfl, rfl, hv, by rw [rv.length]; exact hl, q0 .non (.d .non) B2 _ (T.set k (.lst (ds ++ [d]))) (c2.setc hp (show CellO K B2 (.lst _) (.lst _) from rv.append (.cons r2 .nil))) ((e1.trans e2).trans (Evo.setc (List.mem_of_getElem? hp) hv (fun _ z => nomatch z))) .non hq⟩
theorem sp_dropE1 (h : EvE K te env S post) (q : ∀ r S1, post r S1 → P.nx env S1) : SP K n (tDrop te) env S P := fun B0 H0 as0 Bk B H as σ hl f c g D m =>
  h B H as σ c g _ fun v r B1 H1 S1 c1 e1 r1 hp => m.nx _ S1 B1 H1 as _ (f.step e1) c1 (g.mono e1.ex) (q r S1 hp)
theorem sp_setC1 {ds : List Dat} (h : EvN K te env S ds S1) (q : P.nx (env.set i (some (.c S1.length))) (S1 ++ [.lst ds])) : SP K n (tAsg te (gName i)) env S P := fun B0 H0 as0 Bk B H as σ hl f c g D m =>
  h B H as σ c g _ fun p B1 H1 vs c1 e1 hp hb h1 r1 => by
    have hpa := hp.1
    refine m.nx _ _ B1 H1 (as ++ [p]) _ ((f.step e1).push (f.evo.oldN hp.2)) (c1.push hb hpa (.ofL h1 r1)) (((g.mono e1.ex).grow).set i ?_) q
    exact ⟨p, by rw [← c1.len]; simp, rfl⟩
end
end RW

set_option Elab.async false
set_option linter.all false
set_option maxRecDepth 100000
set_option maxHeartbeats 4000000
namespace N03
open PySem PySem.Spec PyProof.Rows L2 RW

/-! the text by places -/
def top (i : Nat) : Stmt := PySem.Challenge.pw_rampworks_k03_errors_of_rows.main.body.getD i (.Pass ⟨0, 0, 0, 0⟩)
abbrev s_InvalidNumberu_initu : Stmt := inClass (top 5) 0
theorem sc_InvalidNumberu_initu : FnScope ["self", "given"] ["self", "given"] (defScope s_InvalidNumberu_initu) := ⟨rfl, rfl, rfl, by decide +kernel, rfl, by decide +kernel, by decide +kernel⟩
abbrev s_Refusedu_initu : Stmt := inClass (top 6) 0
theorem sc_Refusedu_initu : FnScope ["self", "reason"] ["self", "reason"] (defScope s_Refusedu_initu) := ⟨rfl, rfl, rfl, by decide +kernel, rfl, by decide +kernel, by decide +kernel⟩
abbrev s_is_whole : Stmt := top 10
theorem sc_is_whole : FnScope ["value"] ["value"] (defScope s_is_whole) := ⟨rfl, rfl, rfl, by decide +kernel, rfl, by decide +kernel, by decide +kernel⟩
abbrev s_is_short : Stmt := top 11
theorem sc_is_short : FnScope ["value"] ["value"] (defScope s_is_short) := ⟨rfl, rfl, rfl, by decide +kernel, rfl, by decide +kernel, by decide +kernel⟩
abbrev s_are_short : Stmt := top 12
theorem sc_are_short : FnScope ["values", "x"] ["values"] (defScope s_are_short) := ⟨rfl, rfl, rfl, by decide +kernel, rfl, by decide +kernel, by decide +kernel⟩
abbrev s_are_whole : Stmt := top 13
theorem sc_are_whole : FnScope ["values", "x"] ["values"] (defScope s_are_whole) := ⟨rfl, rfl, rfl, by decide +kernel, rfl, by decide +kernel, by decide +kernel⟩
abbrev s_is_short_row : Stmt := top 14
theorem sc_is_short_row : FnScope ["value", "least", "most"] ["value", "least", "most"] (defScope s_is_short_row) := ⟨rfl, rfl, rfl, by decide +kernel, rfl, by decide +kernel, by decide +kernel⟩
abbrev s_is_whole_row : Stmt := top 15
theorem sc_is_whole_row : FnScope ["value", "many"] ["value", "many"] (defScope s_is_whole_row) := ⟨rfl, rfl, rfl, by decide +kernel, rfl, by decide +kernel, by decide +kernel⟩
abbrev s_are_short_rows : Stmt := top 16
theorem sc_are_short_rows : FnScope ["value", "most_rows", "most_length", "length", "row", "x"] ["value", "most_rows", "most_length"] (defScope s_are_short_rows) := ⟨rfl, rfl, rfl, by decide +kernel, rfl, by decide +kernel, by decide +kernel⟩
abbrev s_is_told : Stmt := top 17
theorem sc_is_told : FnScope ["value", "word", "many"] ["value", "word", "many"] (defScope s_is_told) := ⟨rfl, rfl, rfl, by decide +kernel, rfl, by decide +kernel, by decide +kernel⟩
abbrev s_need_number : Stmt := top 18
theorem sc_need_number : FnScope ["number"] ["number"] (defScope s_need_number) := ⟨rfl, rfl, rfl, by decide +kernel, rfl, by decide +kernel, by decide +kernel⟩
abbrev s_sum_of : Stmt := top 21
theorem sc_sum_of : FnScope ["one", "other", "x", "y"] ["one", "other"] (defScope s_sum_of) := ⟨rfl, rfl, rfl, by decide +kernel, rfl, by decide +kernel, by decide +kernel⟩
abbrev s_times : Stmt := top 23
theorem sc_times : FnScope ["row", "number", "x"] ["row", "number"] (defScope s_times) := ⟨rfl, rfl, rfl, by decide +kernel, rfl, by decide +kernel, by decide +kernel⟩
abbrev s_content_of : Stmt := top 24
theorem sc_content_of : FnScope ["row", "found", "x"] ["row"] (defScope s_content_of) := ⟨rfl, rfl, rfl, by decide +kernel, rfl, by decide +kernel, by decide +kernel⟩
abbrev s_eliminated : Stmt := top 27
theorem sc_eliminated : FnScope ["rows", "left", "index", "row", "chosen", "columns", "sign", "last", "column", "at", "head", "k"] ["rows"] (defScope s_eliminated) := ⟨rfl, rfl, rfl, by decide +kernel, rfl, by decide +kernel, by decide +kernel⟩
abbrev s_first_with : Stmt := top 28
theorem sc_first_with : FnScope ["left", "column", "at", "_", "row"] ["left", "column"] (defScope s_first_with) := ⟨rfl, rfl, rfl, by decide +kernel, rfl, by decide +kernel, by decide +kernel⟩
abbrev s_stepped : Stmt := top 29
theorem sc_stepped : FnScope ["row", "head", "column", "last", "lead", "own", "x", "y"] ["row", "head", "column", "last"] (defScope s_stepped) := ⟨rfl, rfl, rfl, by decide +kernel, rfl, by decide +kernel, by decide +kernel⟩
abbrev s_is_row : Stmt := top 50
theorem sc_is_row : FnScope ["value"] ["value"] (defScope s_is_row) := ⟨rfl, rfl, rfl, by decide +kernel, rfl, by decide +kernel, by decide +kernel⟩
abbrev s_are_rows : Stmt := top 51
theorem sc_are_rows : FnScope ["value"] ["value"] (defScope s_are_rows) := ⟨rfl, rfl, rfl, by decide +kernel, rfl, by decide +kernel, by decide +kernel⟩
abbrev s_need_row : Stmt := top 52
theorem sc_need_row : FnScope ["row"] ["row"] (defScope s_need_row) := ⟨rfl, rfl, rfl, by decide +kernel, rfl, by decide +kernel, by decide +kernel⟩
abbrev s_need_rows : Stmt := top 53
theorem sc_need_rows : FnScope ["rows"] ["rows"] (defScope s_need_rows) := ⟨rfl, rfl, rfl, by decide +kernel, rfl, by decide +kernel, by decide +kernel⟩
abbrev s_need_pair : Stmt := top 54
theorem sc_need_pair : FnScope ["one", "other"] ["one", "other"] (defScope s_need_pair) := ⟨rfl, rfl, rfl, by decide +kernel, rfl, by decide +kernel, by decide +kernel⟩
abbrev s_need_goal : Stmt := top 55
theorem sc_need_goal : FnScope ["rows", "goal"] ["rows", "goal"] (defScope s_need_goal) := ⟨rfl, rfl, rfl, by decide +kernel, rfl, by decide +kernel, by decide +kernel⟩
abbrev s_need_same : Stmt := top 56
theorem sc_need_same : FnScope ["one", "other"] ["one", "other"] (defScope s_need_same) := ⟨rfl, rfl, rfl, by decide +kernel, rfl, by decide +kernel, by decide +kernel⟩
abbrev s_plus : Stmt := top 57
theorem sc_plus : FnScope ["one", "other"] ["one", "other"] (defScope s_plus) := ⟨rfl, rfl, rfl, by decide +kernel, rfl, by decide +kernel, by decide +kernel⟩
abbrev s_less : Stmt := top 58
theorem sc_less : FnScope ["one", "other"] ["one", "other"] (defScope s_less) := ⟨rfl, rfl, rfl, by decide +kernel, rfl, by decide +kernel, by decide +kernel⟩
abbrev s_dot : Stmt := top 59
theorem sc_dot : FnScope ["one", "other"] ["one", "other"] (defScope s_dot) := ⟨rfl, rfl, rfl, by decide +kernel, rfl, by decide +kernel, by decide +kernel⟩
abbrev s_multiple : Stmt := top 60
theorem sc_multiple : FnScope ["row", "number"] ["row", "number"] (defScope s_multiple) := ⟨rfl, rfl, rfl, by decide +kernel, rfl, by decide +kernel, by decide +kernel⟩
abbrev s_content : Stmt := top 61
theorem sc_content : FnScope ["row"] ["row"] (defScope s_content) := ⟨rfl, rfl, rfl, by decide +kernel, rfl, by decide +kernel, by decide +kernel⟩
abbrev s_primitive : Stmt := top 62
theorem sc_primitive : FnScope ["row", "size", "x"] ["row"] (defScope s_primitive) := ⟨rfl, rfl, rfl, by decide +kernel, rfl, by decide +kernel, by decide +kernel⟩
abbrev s_determinant : Stmt := top 63
theorem sc_determinant : FnScope ["rows"] ["rows"] (defScope s_determinant) := ⟨rfl, rfl, rfl, by decide +kernel, rfl, by decide +kernel, by decide +kernel⟩
abbrev s_rank : Stmt := top 64
theorem sc_rank : FnScope ["rows", "chosen", "_"] ["rows"] (defScope s_rank) := ⟨rfl, rfl, rfl, by decide +kernel, rfl, by decide +kernel, by decide +kernel⟩
abbrev s_basis : Stmt := top 65
theorem sc_basis : FnScope ["rows"] ["rows"] (defScope s_basis) := ⟨rfl, rfl, rfl, by decide +kernel, rfl, by decide +kernel, by decide +kernel⟩
abbrev s_kernel : Stmt := top 66
theorem sc_kernel : FnScope ["rows", "chosen", "_", "index"] ["rows"] (defScope s_kernel) := ⟨rfl, rfl, rfl, by decide +kernel, rfl, by decide +kernel, by decide +kernel⟩
abbrev s_parts_or_form : Stmt := top 70
theorem sc_parts_or_form : FnScope ["rows", "goal", "chosen", "columns", "_", "found", "index", "numbers", "bottom"] ["rows", "goal"] (defScope s_parts_or_form) := ⟨rfl, rfl, rfl, by decide +kernel, rfl, by decide +kernel, by decide +kernel⟩
abbrev s_is_parts_or_form : Stmt := top 72
theorem sc_is_parts_or_form : FnScope ["rows", "goal", "value", "_", "numbers", "bottom"] ["rows", "goal", "value"] (defScope s_is_parts_or_form) := ⟨rfl, rfl, rfl, by decide +kernel, rfl, by decide +kernel, by decide +kernel⟩
abbrev s_is_test : Stmt := top 73
theorem sc_is_test : FnScope ["rows", "goal", "form", "m", "row"] ["rows", "goal", "form", "m"] (defScope s_is_test) := ⟨rfl, rfl, rfl, by decide +kernel, rfl, by decide +kernel, by decide +kernel⟩
abbrev s_whole_or_test : Stmt := top 74
theorem sc_whole_or_test : FnScope ["rows", "goal", "chosen", "columns", "_", "index", "links", "table", "form", "m", "later", "left", "numbers", "found"] ["rows", "goal"] (defScope s_whole_or_test) := ⟨rfl, rfl, rfl, by decide +kernel, rfl, by decide +kernel, by decide +kernel⟩
abbrev s_is_whole_or_test : Stmt := top 75
theorem sc_is_whole_or_test : FnScope ["rows", "goal", "value", "_", "form", "m"] ["rows", "goal", "value"] (defScope s_is_whole_or_test) := ⟨rfl, rfl, rfl, by decide +kernel, rfl, by decide +kernel, by decide +kernel⟩
abbrev s__law_pail : Stmt := top 77
theorem sc__law_pail : FnScope ["script", "spot", "cell", "great", "seed"] ["script", "spot"] (defScope s__law_pail) := ⟨rfl, rfl, rfl, by decide +kernel, rfl, by decide +kernel, by decide +kernel⟩
abbrev s__law_scooped : Stmt := top 78
theorem sc__law_scooped : FnScope ["pail", "total", "found", "one", "two"] ["pail", "total"] (defScope s__law_scooped) := ⟨rfl, rfl, rfl, by decide +kernel, rfl, by decide +kernel, by decide +kernel⟩
abbrev s__law_any_of : Stmt := top 79
theorem sc__law_any_of : FnScope ["pail", "items"] ["pail", "items"] (defScope s__law_any_of) := ⟨rfl, rfl, rfl, by decide +kernel, rfl, by decide +kernel, by decide +kernel⟩
abbrev s__law_met : Stmt := top 80
theorem sc__law_met : FnScope ["call", "error"] ["call"] (defScope s__law_met) := ⟨rfl, rfl, rfl, by decide +kernel, rfl, by decide +kernel, by decide +kernel⟩
abbrev s__law_right : Stmt := top 81
theorem sc__law_right : FnScope ["pail", "none", "bad", "odd", "one", "rows", "other", "met_v", "due", "call", "word", "value"] ["pail"] (defScope s__law_right) := ⟨rfl, rfl, rfl, by decide +kernel, rfl, by decide +kernel, by decide +kernel⟩
abbrev s_law : Stmt := top 82
theorem sc_law : FnScope ["script", "spot", "pail", "met_v"] ["script"] (defScope s_law) := ⟨rfl, rfl, rfl, by decide +kernel, rfl, by decide +kernel, by decide +kernel⟩
structure Txt (K : PySem.W.Frag) (mg : Str → Option Value) where
  a_InvalidNumberu_initu : Addr
  d_InvalidNumberu_initu : FuncData
  F_InvalidNumberu_initu : Fun K "__init__" "InvalidNumber.__init__" s_InvalidNumberu_initu a_InvalidNumberu_initu d_InvalidNumberu_initu
  b_InvalidNumberu_initu : Binds K d_InvalidNumberu_initu ["self", "given"] []
  a_Refusedu_initu : Addr
  d_Refusedu_initu : FuncData
  F_Refusedu_initu : Fun K "__init__" "Refused.__init__" s_Refusedu_initu a_Refusedu_initu d_Refusedu_initu
  b_Refusedu_initu : Binds K d_Refusedu_initu ["self", "reason"] []
  a_is_whole : Addr
  d_is_whole : FuncData
  F_is_whole : Fun K "is_whole" "is_whole" s_is_whole a_is_whole d_is_whole
  b_is_whole : Binds K d_is_whole ["value"] []
  m_is_whole : mg "is_whole" = some (.ref a_is_whole)
  k_is_whole : PySem.W.keepIn K (.ref a_is_whole) = true
  a_is_short : Addr
  d_is_short : FuncData
  F_is_short : Fun K "is_short" "is_short" s_is_short a_is_short d_is_short
  b_is_short : Binds K d_is_short ["value"] []
  m_is_short : mg "is_short" = some (.ref a_is_short)
  k_is_short : PySem.W.keepIn K (.ref a_is_short) = true
  a_are_short : Addr
  d_are_short : FuncData
  F_are_short : Fun K "are_short" "are_short" s_are_short a_are_short d_are_short
  b_are_short : Binds K d_are_short ["values"] []
  m_are_short : mg "are_short" = some (.ref a_are_short)
  k_are_short : PySem.W.keepIn K (.ref a_are_short) = true
  a_are_whole : Addr
  d_are_whole : FuncData
  F_are_whole : Fun K "are_whole" "are_whole" s_are_whole a_are_whole d_are_whole
  b_are_whole : Binds K d_are_whole ["values"] []
  m_are_whole : mg "are_whole" = some (.ref a_are_whole)
  k_are_whole : PySem.W.keepIn K (.ref a_are_whole) = true
  a_is_short_row : Addr
  d_is_short_row : FuncData
  F_is_short_row : Fun K "is_short_row" "is_short_row" s_is_short_row a_is_short_row d_is_short_row
  b_is_short_row : Binds K d_is_short_row ["value", "least", "most"] []
  m_is_short_row : mg "is_short_row" = some (.ref a_is_short_row)
  k_is_short_row : PySem.W.keepIn K (.ref a_is_short_row) = true
  a_is_whole_row : Addr
  d_is_whole_row : FuncData
  F_is_whole_row : Fun K "is_whole_row" "is_whole_row" s_is_whole_row a_is_whole_row d_is_whole_row
  b_is_whole_row : Binds K d_is_whole_row ["value", "many"] []
  m_is_whole_row : mg "is_whole_row" = some (.ref a_is_whole_row)
  k_is_whole_row : PySem.W.keepIn K (.ref a_is_whole_row) = true
  a_are_short_rows : Addr
  d_are_short_rows : FuncData
  F_are_short_rows : Fun K "are_short_rows" "are_short_rows" s_are_short_rows a_are_short_rows d_are_short_rows
  b_are_short_rows : Binds K d_are_short_rows ["value", "most_rows", "most_length"] []
  m_are_short_rows : mg "are_short_rows" = some (.ref a_are_short_rows)
  k_are_short_rows : PySem.W.keepIn K (.ref a_are_short_rows) = true
  a_is_told : Addr
  d_is_told : FuncData
  F_is_told : Fun K "is_told" "is_told" s_is_told a_is_told d_is_told
  b_is_told : Binds K d_is_told ["value", "word", "many"] []
  m_is_told : mg "is_told" = some (.ref a_is_told)
  k_is_told : PySem.W.keepIn K (.ref a_is_told) = true
  a_need_number : Addr
  d_need_number : FuncData
  F_need_number : Fun K "need_number" "need_number" s_need_number a_need_number d_need_number
  b_need_number : Binds K d_need_number ["number"] []
  m_need_number : mg "need_number" = some (.ref a_need_number)
  k_need_number : PySem.W.keepIn K (.ref a_need_number) = true
  a_sum_of : Addr
  d_sum_of : FuncData
  F_sum_of : Fun K "sum_of" "sum_of" s_sum_of a_sum_of d_sum_of
  b_sum_of : Binds K d_sum_of ["one", "other"] []
  m_sum_of : mg "sum_of" = some (.ref a_sum_of)
  k_sum_of : PySem.W.keepIn K (.ref a_sum_of) = true
  a_times : Addr
  d_times : FuncData
  F_times : Fun K "times" "times" s_times a_times d_times
  b_times : Binds K d_times ["row", "number"] []
  m_times : mg "times" = some (.ref a_times)
  k_times : PySem.W.keepIn K (.ref a_times) = true
  a_content_of : Addr
  d_content_of : FuncData
  F_content_of : Fun K "content_of" "content_of" s_content_of a_content_of d_content_of
  b_content_of : Binds K d_content_of ["row"] []
  m_content_of : mg "content_of" = some (.ref a_content_of)
  k_content_of : PySem.W.keepIn K (.ref a_content_of) = true
  a_eliminated : Addr
  d_eliminated : FuncData
  F_eliminated : Fun K "eliminated" "eliminated" s_eliminated a_eliminated d_eliminated
  b_eliminated : Binds K d_eliminated ["rows"] []
  m_eliminated : mg "eliminated" = some (.ref a_eliminated)
  k_eliminated : PySem.W.keepIn K (.ref a_eliminated) = true
  a_first_with : Addr
  d_first_with : FuncData
  F_first_with : Fun K "first_with" "first_with" s_first_with a_first_with d_first_with
  b_first_with : Binds K d_first_with ["left", "column"] []
  m_first_with : mg "first_with" = some (.ref a_first_with)
  k_first_with : PySem.W.keepIn K (.ref a_first_with) = true
  a_stepped : Addr
  d_stepped : FuncData
  F_stepped : Fun K "stepped" "stepped" s_stepped a_stepped d_stepped
  b_stepped : Binds K d_stepped ["row", "head", "column", "last"] []
  m_stepped : mg "stepped" = some (.ref a_stepped)
  k_stepped : PySem.W.keepIn K (.ref a_stepped) = true
  a_is_row : Addr
  d_is_row : FuncData
  F_is_row : Fun K "is_row" "is_row" s_is_row a_is_row d_is_row
  b_is_row : Binds K d_is_row ["value"] []
  m_is_row : mg "is_row" = some (.ref a_is_row)
  k_is_row : PySem.W.keepIn K (.ref a_is_row) = true
  a_are_rows : Addr
  d_are_rows : FuncData
  F_are_rows : Fun K "are_rows" "are_rows" s_are_rows a_are_rows d_are_rows
  b_are_rows : Binds K d_are_rows ["value"] []
  m_are_rows : mg "are_rows" = some (.ref a_are_rows)
  k_are_rows : PySem.W.keepIn K (.ref a_are_rows) = true
  a_need_row : Addr
  d_need_row : FuncData
  F_need_row : Fun K "need_row" "need_row" s_need_row a_need_row d_need_row
  b_need_row : Binds K d_need_row ["row"] []
  m_need_row : mg "need_row" = some (.ref a_need_row)
  k_need_row : PySem.W.keepIn K (.ref a_need_row) = true
  a_need_rows : Addr
  d_need_rows : FuncData
  F_need_rows : Fun K "need_rows" "need_rows" s_need_rows a_need_rows d_need_rows
  b_need_rows : Binds K d_need_rows ["rows"] []
  m_need_rows : mg "need_rows" = some (.ref a_need_rows)
  k_need_rows : PySem.W.keepIn K (.ref a_need_rows) = true
  a_need_pair : Addr
  d_need_pair : FuncData
  F_need_pair : Fun K "need_pair" "need_pair" s_need_pair a_need_pair d_need_pair
  b_need_pair : Binds K d_need_pair ["one", "other"] []
  m_need_pair : mg "need_pair" = some (.ref a_need_pair)
  k_need_pair : PySem.W.keepIn K (.ref a_need_pair) = true
  a_need_goal : Addr
  d_need_goal : FuncData
  F_need_goal : Fun K "need_goal" "need_goal" s_need_goal a_need_goal d_need_goal
  b_need_goal : Binds K d_need_goal ["rows", "goal"] []
  m_need_goal : mg "need_goal" = some (.ref a_need_goal)
  k_need_goal : PySem.W.keepIn K (.ref a_need_goal) = true
  a_need_same : Addr
  d_need_same : FuncData
  F_need_same : Fun K "need_same" "need_same" s_need_same a_need_same d_need_same
  b_need_same : Binds K d_need_same ["one", "other"] []
  m_need_same : mg "need_same" = some (.ref a_need_same)
  k_need_same : PySem.W.keepIn K (.ref a_need_same) = true
  a_plus : Addr
  d_plus : FuncData
  F_plus : Fun K "plus" "plus" s_plus a_plus d_plus
  b_plus : Binds K d_plus ["one", "other"] []
  m_plus : mg "plus" = some (.ref a_plus)
  k_plus : PySem.W.keepIn K (.ref a_plus) = true
  a_less : Addr
  d_less : FuncData
  F_less : Fun K "less" "less" s_less a_less d_less
  b_less : Binds K d_less ["one", "other"] []
  m_less : mg "less" = some (.ref a_less)
  k_less : PySem.W.keepIn K (.ref a_less) = true
  a_dot : Addr
  d_dot : FuncData
  F_dot : Fun K "dot" "dot" s_dot a_dot d_dot
  b_dot : Binds K d_dot ["one", "other"] []
  m_dot : mg "dot" = some (.ref a_dot)
  k_dot : PySem.W.keepIn K (.ref a_dot) = true
  a_multiple : Addr
  d_multiple : FuncData
  F_multiple : Fun K "multiple" "multiple" s_multiple a_multiple d_multiple
  b_multiple : Binds K d_multiple ["row", "number"] []
  m_multiple : mg "multiple" = some (.ref a_multiple)
  k_multiple : PySem.W.keepIn K (.ref a_multiple) = true
  a_content : Addr
  d_content : FuncData
  F_content : Fun K "content" "content" s_content a_content d_content
  b_content : Binds K d_content ["row"] []
  m_content : mg "content" = some (.ref a_content)
  k_content : PySem.W.keepIn K (.ref a_content) = true
  a_primitive : Addr
  d_primitive : FuncData
  F_primitive : Fun K "primitive" "primitive" s_primitive a_primitive d_primitive
  b_primitive : Binds K d_primitive ["row"] []
  m_primitive : mg "primitive" = some (.ref a_primitive)
  k_primitive : PySem.W.keepIn K (.ref a_primitive) = true
  a_determinant : Addr
  d_determinant : FuncData
  F_determinant : Fun K "determinant" "determinant" s_determinant a_determinant d_determinant
  b_determinant : Binds K d_determinant ["rows"] []
  m_determinant : mg "determinant" = some (.ref a_determinant)
  k_determinant : PySem.W.keepIn K (.ref a_determinant) = true
  a_rank : Addr
  d_rank : FuncData
  F_rank : Fun K "rank" "rank" s_rank a_rank d_rank
  b_rank : Binds K d_rank ["rows"] []
  m_rank : mg "rank" = some (.ref a_rank)
  k_rank : PySem.W.keepIn K (.ref a_rank) = true
  a_basis : Addr
  d_basis : FuncData
  F_basis : Fun K "basis" "basis" s_basis a_basis d_basis
  b_basis : Binds K d_basis ["rows"] []
  m_basis : mg "basis" = some (.ref a_basis)
  k_basis : PySem.W.keepIn K (.ref a_basis) = true
  a_kernel : Addr
  d_kernel : FuncData
  F_kernel : Fun K "kernel" "kernel" s_kernel a_kernel d_kernel
  b_kernel : Binds K d_kernel ["rows"] []
  m_kernel : mg "kernel" = some (.ref a_kernel)
  k_kernel : PySem.W.keepIn K (.ref a_kernel) = true
  a_parts_or_form : Addr
  d_parts_or_form : FuncData
  F_parts_or_form : Fun K "parts_or_form" "parts_or_form" s_parts_or_form a_parts_or_form d_parts_or_form
  b_parts_or_form : Binds K d_parts_or_form ["rows", "goal"] []
  m_parts_or_form : mg "parts_or_form" = some (.ref a_parts_or_form)
  k_parts_or_form : PySem.W.keepIn K (.ref a_parts_or_form) = true
  a_is_parts_or_form : Addr
  d_is_parts_or_form : FuncData
  F_is_parts_or_form : Fun K "is_parts_or_form" "is_parts_or_form" s_is_parts_or_form a_is_parts_or_form d_is_parts_or_form
  b_is_parts_or_form : Binds K d_is_parts_or_form ["rows", "goal", "value"] []
  m_is_parts_or_form : mg "is_parts_or_form" = some (.ref a_is_parts_or_form)
  k_is_parts_or_form : PySem.W.keepIn K (.ref a_is_parts_or_form) = true
  a_is_test : Addr
  d_is_test : FuncData
  F_is_test : Fun K "is_test" "is_test" s_is_test a_is_test d_is_test
  b_is_test : Binds K d_is_test ["rows", "goal", "form", "m"] []
  m_is_test : mg "is_test" = some (.ref a_is_test)
  k_is_test : PySem.W.keepIn K (.ref a_is_test) = true
  a_whole_or_test : Addr
  d_whole_or_test : FuncData
  F_whole_or_test : Fun K "whole_or_test" "whole_or_test" s_whole_or_test a_whole_or_test d_whole_or_test
  b_whole_or_test : Binds K d_whole_or_test ["rows", "goal"] []
  m_whole_or_test : mg "whole_or_test" = some (.ref a_whole_or_test)
  k_whole_or_test : PySem.W.keepIn K (.ref a_whole_or_test) = true
  a_is_whole_or_test : Addr
  d_is_whole_or_test : FuncData
  F_is_whole_or_test : Fun K "is_whole_or_test" "is_whole_or_test" s_is_whole_or_test a_is_whole_or_test d_is_whole_or_test
  b_is_whole_or_test : Binds K d_is_whole_or_test ["rows", "goal", "value"] []
  m_is_whole_or_test : mg "is_whole_or_test" = some (.ref a_is_whole_or_test)
  k_is_whole_or_test : PySem.W.keepIn K (.ref a_is_whole_or_test) = true
  a__law_pail : Addr
  d__law_pail : FuncData
  F__law_pail : Fun K "_law_pail" "_law_pail" s__law_pail a__law_pail d__law_pail
  b__law_pail : Binds K d__law_pail ["script", "spot"] []
  m__law_pail : mg "_law_pail" = some (.ref a__law_pail)
  k__law_pail : PySem.W.keepIn K (.ref a__law_pail) = true
  a__law_scooped : Addr
  d__law_scooped : FuncData
  F__law_scooped : Fun K "_law_scooped" "_law_scooped" s__law_scooped a__law_scooped d__law_scooped
  b__law_scooped : Binds K d__law_scooped ["pail", "total"] []
  m__law_scooped : mg "_law_scooped" = some (.ref a__law_scooped)
  k__law_scooped : PySem.W.keepIn K (.ref a__law_scooped) = true
  a__law_any_of : Addr
  d__law_any_of : FuncData
  F__law_any_of : Fun K "_law_any_of" "_law_any_of" s__law_any_of a__law_any_of d__law_any_of
  b__law_any_of : Binds K d__law_any_of ["pail", "items"] []
  m__law_any_of : mg "_law_any_of" = some (.ref a__law_any_of)
  k__law_any_of : PySem.W.keepIn K (.ref a__law_any_of) = true
  a__law_met : Addr
  d__law_met : FuncData
  F__law_met : Fun K "_law_met" "_law_met" s__law_met a__law_met d__law_met
  b__law_met : Binds K d__law_met ["call"] []
  m__law_met : mg "_law_met" = some (.ref a__law_met)
  k__law_met : PySem.W.keepIn K (.ref a__law_met) = true
  a__law_right : Addr
  d__law_right : FuncData
  F__law_right : Fun K "_law_right" "_law_right" s__law_right a__law_right d__law_right
  b__law_right : Binds K d__law_right ["pail"] []
  m__law_right : mg "_law_right" = some (.ref a__law_right)
  k__law_right : PySem.W.keepIn K (.ref a__law_right) = true
  a_law : Addr
  d_law : FuncData
  F_law : Fun K "law" "law" s_law a_law d_law
  b_law : Binds K d_law ["script"] []
  t_BEYOND : Tok
  m_BEYOND : mg "BEYOND" = some (.int (10 ^ 60) t_BEYOND)
  t_BENEATH : Tok
  m_BENEATH : mg "BENEATH" = some (.int (-(10 ^ 60)) t_BENEATH)
  t_MOST_LENGTH : Tok
  m_MOST_LENGTH : mg "MOST_LENGTH" = some (.int 16 t_MOST_LENGTH)
  t_MOST_ROWS : Tok
  m_MOST_ROWS : mg "MOST_ROWS" = some (.int 400 t_MOST_ROWS)
  n_isinstance : mg "isinstance" = none
  n_int : mg "int" = none
  n_bool : mg "bool" = none
  n_tuple : mg "tuple" = none
  n_list : mg "list" = none
  n_len : mg "len" = none
  n_sum : mg "sum" = none
  n_all : mg "all" = none
  n_any : mg "any" = none
  n_zip : mg "zip" = none
  n_max : mg "max" = none
  n_min : mg "min" = none
  n_abs : mg "abs" = none
  n_range : mg "range" = none
  n_enumerate : mg "enumerate" = none
  n_reversed : mg "reversed" = none
  n_sorted : mg "sorted" = none
  n_str : mg "str" = none
  n_repr : mg "repr" = none
  a_InvalidRow : Addr
  m_InvalidRow : mg "InvalidRow" = some (.ref a_InvalidRow)
  k_InvalidRow : PySem.W.keepIn K (.ref a_InvalidRow) = true
  be_InvalidRow : PySem.W.subIn K (.ref a_InvalidRow) (.type "BaseException") = some true
  ty_InvalidRow : PySem.W.typeIn K (.ref a_InvalidRow) = some (.type "type")
  x_InvalidRow : PySem.W.excIn K a_InvalidRow [.type "ValueError", .type "Exception", .type "BaseException", .type "object"] "ValueError.__new__" = true
  a_InvalidOperation : Addr
  m_InvalidOperation : mg "InvalidOperation" = some (.ref a_InvalidOperation)
  k_InvalidOperation : PySem.W.keepIn K (.ref a_InvalidOperation) = true
  be_InvalidOperation : PySem.W.subIn K (.ref a_InvalidOperation) (.type "BaseException") = some true
  ty_InvalidOperation : PySem.W.typeIn K (.ref a_InvalidOperation) = some (.type "type")
  x_InvalidOperation : PySem.W.excIn K a_InvalidOperation [.type "ValueError", .type "Exception", .type "BaseException", .type "object"] "ValueError.__new__" = true
  a_InvalidNumber : Addr
  m_InvalidNumber : mg "InvalidNumber" = some (.ref a_InvalidNumber)
  k_InvalidNumber : PySem.W.keepIn K (.ref a_InvalidNumber) = true
  be_InvalidNumber : PySem.W.subIn K (.ref a_InvalidNumber) (.type "BaseException") = some true
  ty_InvalidNumber : PySem.W.typeIn K (.ref a_InvalidNumber) = some (.type "type")
  ox_InvalidNumber : OexG K a_InvalidNumber
  oi_InvalidNumber : PySem.W.findIn K (.ref a_InvalidNumber) "__init__" = some (some (.ref a_InvalidNumberu_initu))
  ot_InvalidNumber : PySem.W.typeIn K (.ref a_InvalidNumberu_initu) = some (.type "function")
  nf_InvalidNumber : PySem.W.findIn K (.ref a_InvalidNumber) "given" = some none
  xf_InvalidNumber : XfC K a_InvalidNumber
  a_Refused : Addr
  m_Refused : mg "Refused" = some (.ref a_Refused)
  k_Refused : PySem.W.keepIn K (.ref a_Refused) = true
  be_Refused : PySem.W.subIn K (.ref a_Refused) (.type "BaseException") = some true
  ty_Refused : PySem.W.typeIn K (.ref a_Refused) = some (.type "type")
  ox_Refused : OexG K a_Refused
  oi_Refused : PySem.W.findIn K (.ref a_Refused) "__init__" = some (some (.ref a_Refusedu_initu))
  ot_Refused : PySem.W.typeIn K (.ref a_Refusedu_initu) = some (.type "function")
  nf_Refused : PySem.W.findIn K (.ref a_Refused) "reason" = some none
  xf_Refused : XfC K a_Refused
  em_InvalidRow_InvalidRow : PySem.W.exmOne K (.ref a_InvalidRow) (.ref a_InvalidRow) = some true
  em_InvalidRow_InvalidOperation : PySem.W.exmOne K (.ref a_InvalidRow) (.ref a_InvalidOperation) = some false
  em_InvalidRow_InvalidNumber : PySem.W.exmOne K (.ref a_InvalidRow) (.ref a_InvalidNumber) = some false
  em_InvalidRow_Refused : PySem.W.exmOne K (.ref a_InvalidRow) (.ref a_Refused) = some false
  em_InvalidOperation_InvalidRow : PySem.W.exmOne K (.ref a_InvalidOperation) (.ref a_InvalidRow) = some false
  em_InvalidOperation_InvalidOperation : PySem.W.exmOne K (.ref a_InvalidOperation) (.ref a_InvalidOperation) = some true
  em_InvalidOperation_InvalidNumber : PySem.W.exmOne K (.ref a_InvalidOperation) (.ref a_InvalidNumber) = some false
  em_InvalidOperation_Refused : PySem.W.exmOne K (.ref a_InvalidOperation) (.ref a_Refused) = some false
  em_InvalidNumber_InvalidRow : PySem.W.exmOne K (.ref a_InvalidNumber) (.ref a_InvalidRow) = some false
  em_InvalidNumber_InvalidOperation : PySem.W.exmOne K (.ref a_InvalidNumber) (.ref a_InvalidOperation) = some false
  em_InvalidNumber_InvalidNumber : PySem.W.exmOne K (.ref a_InvalidNumber) (.ref a_InvalidNumber) = some true
  em_InvalidNumber_Refused : PySem.W.exmOne K (.ref a_InvalidNumber) (.ref a_Refused) = some false
  em_Refused_InvalidRow : PySem.W.exmOne K (.ref a_Refused) (.ref a_InvalidRow) = some false
  em_Refused_InvalidOperation : PySem.W.exmOne K (.ref a_Refused) (.ref a_InvalidOperation) = some false
  em_Refused_InvalidNumber : PySem.W.exmOne K (.ref a_Refused) (.ref a_InvalidNumber) = some false
  em_Refused_Refused : PySem.W.exmOne K (.ref a_Refused) (.ref a_Refused) = some true
  c__law_right : Addr
  P__law_right : Addr
  lk__law_right : ∃ (oc : Value) (od : Option Addr) (kV doc pm : Value) (an : Option Addr) (ct : Value) (osl : Array (Option Value)), d__law_right = PySem.W.fnOf "_law_right" "_law_right" (defArgs s__law_right) (defBody s__law_right) (defScope s__law_right) .none kV doc pm an (.ref c__law_right) ct ∧ K.lookup a__law_right = some ⟨oc, od, .func d__law_right, osl⟩ ∧ PySem.W.codeIn K (.ref c__law_right) "_law_right" = true
  c_law : Addr
  P_law : Addr
  lk_law : ∃ (oc : Value) (od : Option Addr) (kV doc pm : Value) (an : Option Addr) (ct : Value) (osl : Array (Option Value)), d_law = PySem.W.fnOf "law" "law" (defArgs s_law) (defBody s_law) (defScope s_law) .none kV doc pm an (.ref c_law) ct ∧ K.lookup a_law = some ⟨oc, od, .func d_law, osl⟩ ∧ PySem.W.codeIn K (.ref c_law) "law" = true
  pne : ([P__law_right, P_law] : List Addr).Nodup
  m_gcd : mg "gcd" = some (.builtin "math.gcd")
end N03

set_option Elab.async false
set_option linter.all false
set_option maxRecDepth 100000
set_option maxHeartbeats 4000000
namespace N03
open PySem PySem.Spec PyProof.Rows L2 RW

def gASR (ss : List Sl) (S : List Dat) (r : Dat) (S' : List Dat) : Prop := ∃ (v : Dat) (mr ml : Int), ss = [.d v, .d (.int mr), .d (.int ml)] ∧ KD v ∧ r = .bl (asrB v mr ml) ∧ S' = S
theorem at0 {x : Dat} {xs : List Dat} : atI (x :: xs) 0 = some x := by simp [atI, ixN]
theorem at1 {x y : Dat} {xs : List Dat} : atI (x :: y :: xs) 1 = some y := by
  have h : (1 : Int) < (x :: y :: xs).length := by rw [List.length_cons, List.length_cons]; omega
  unfold atI ixN
  rw [if_pos (by decide), if_pos h]; rfl
theorem cut1 {xs : List Dat} : RW.cutD xs (some 1) none = xs.drop 1 := by
  unfold RW.cutD
  have e2 : HT.sIx xs.length xs.length none = xs.length := rfl
  have e1 : HT.sIx xs.length 0 (some 1) = min 1 xs.length := rfl
  rw [e1, e2]
  cases xs with
  | nil => rfl
  | cons x r =>
    rw [show min 1 (x :: r).length = 1 by simp]
    exact List.take_of_length_le (by simp)
theorem kd_inn {xs : List Dat} (h : KD (.tup xs)) : ∀ d ∈ xs, KD d := by cases h; assumption
theorem cd_lenX {K : PySem.W.Frag} {S : List Dat} {v : Dat} (h : isTupD v = true) : CallD K (rLenD K) [.d v] S (.int (lenD v)) S := by
  cases v <;> first
    | (simp [isTupD] at h; done)
    | exact cd_len .tup
section
variable {P : Program} {w : World} {K : PySem.W.Frag} {mg : Str → Option Value} {base : Heap}

theorem ok_are_short_rows (T : Txt K mg) : FnOk P w K mg base CX0 1 T.a_are_short_rows T.d_are_short_rows ["value", "most_rows", "most_length"] (SpD K (gASR)) := by
  refine T.F_are_short_rows.ok sc_are_short_rows (spd_len (k := 3) fun ss S r S' hg => ?_) (fun cdv A outer s H vs Q E hr h => ⟨_, (pss_cons (ps_if (PW.pt (pw_or (pt_not (pt_truK K (pe_callB call_isi (by rfl) T.n_isinstance (by decide +kernel) (pa_cons (pv 0) (pa_cons (pe_bltn (v := .ty "tuple") (by rfl) T.n_tuple (by decide +kernel) rfl) pa_nil))))) (pw_or1 (pt_not (pt_chain op_le op_le pe_int (pe_callB (call_lenK K) (by rfl) T.n_len (by decide +kernel) (pa_cons (pv 0) pa_nil)) (pv 1)))))) (pss_one (ps_ret pe_bl)) pss_nil) (pss_cons (ps_if (PW.pt (pw_or (pt_not (pt_truK K (pe_callB call_isi (by rfl) T.n_isinstance (by decide +kernel) (pa_cons (pe_ix (ix_seqK K) (pv 0) pe_int (fun _ _ => rfl)) (pa_cons (pe_bltn (v := .ty "tuple") (by rfl) T.n_tuple (by decide +kernel) rfl) pa_nil))))) (pw_or1 (pt_not (pt_chain op_le op_le pe_int (pe_callB (call_lenK K) (by rfl) T.n_len (by decide +kernel) (pa_cons (pe_ix (ix_seqK K) (pv 0) pe_int (fun _ _ => rfl)) pa_nil)) (pv 2)))))) (pss_one (ps_ret pe_bl)) pss_nil) (pss_cons (ps_set (i := 3) sc_are_short_rows.nd rfl (by first | exact Or.inl rfl | exact Or.inr rfl) (pe_callB (call_lenK K) (by rfl) T.n_len (by decide +kernel) (pa_cons (pe_ix (ix_seqK K) (pv 0) pe_int (fun _ _ => rfl)) pa_nil))) (pss_cons (ps_for PassesOwn.never rfl (pi_seqK K (pv 0)) (pg_name (i := 4) sc_are_short_rows.nd rfl (by first | exact Or.inl rfl | exact Or.inr rfl)) (pss_cons (ps_if (PW.pt (pw_or (pt_not (pt_truK K (pe_callB call_isi (by rfl) T.n_isinstance (by decide +kernel) (pa_cons (pv 4) (pa_cons (pe_bltn (v := .ty "tuple") (by rfl) T.n_tuple (by decide +kernel) rfl) pa_nil))))) (pw_or1 (pt_cmpR op_ne (pe_callB (call_lenK K) (by rfl) T.n_len (by decide +kernel) (pa_cons (pv 4) pa_nil)) (pv 3) (nomark _))))) (pss_one (ps_ret pe_bl)) pss_nil) (pss_one (ps_for PassesOwn.never rfl (pi_seqK K (pv 4)) (pg_name (i := 5) sc_are_short_rows.nd rfl (by first | exact Or.inl rfl | exact Or.inr rfl)) (pss_one (ps_if (PW.pt (pw_or (pt_not (pt_truK K (pe_callB call_isi (by rfl) T.n_isinstance (by decide +kernel) (pa_cons (pv 5) (pa_cons (pe_bltn (v := .ty "int") (by rfl) T.n_int (by decide +kernel) rfl) pa_nil))))) (pw_or (pt_cmpR op_isX (pv 5) pe_bl (nomark _)) (pw_or (pt_cmpR op_isX (pv 5) pe_bl (nomark _)) (pw_or (pt_cmpR op_le (pv 5) (pe_glob (v := .int (-(10 ^ 60))) rfl T.m_BENEATH ⟨_, rfl⟩) (nomark _)) (pw_or1 (pt_cmpR op_ge (pv 5) (pe_glob (v := .int (10 ^ 60)) rfl T.m_BEYOND ⟨_, rfl⟩) (nomark _)))))))) (pss_one (ps_ret pe_bl)) pss_nil)))))) (pss_one (ps_ret pe_bl)))))), sp_body h fun ss S r S' hg => ?_⟩)
  · obtain ⟨v, mr, ml, rfl, _⟩ := hg; rfl
  · obtain ⟨v, mr, ml, rfl, hv, rfl, rfl⟩ := hg
    have hT : EvT K _ [some (.d v), some (.d (.int mr)), some (.d (.int ml)), none, none, none] S' (!isTupD v) S' := et_not (et_bl (ev_cb (ea_cons (ev_var (i := 0) rfl) (ea_cons ev_ty ea_nil)) (ck_tup hv)))
    by_cases ht : isTupD v = true
    case neg =>
      have ht : isTupD v = false := by simpa using ht
      rw [ht] at hT
      have e : asrB v mr ml = false := by cases v <;> first | rfl | (simp [isTupD] at ht)
      rw [e]
      refine sp_ifq (b := true) (et_orP (a := true) (b := false) hT fun h => by cases h) (fun _ => sp_retq (sp_ret ev_bl ⟨rfl, List.take_length⟩)) (fun h => by cases h)
    case pos =>
      rw [ht] at hT
      obtain ⟨xs, rfl⟩ : ∃ xs, v = .tup xs := by cases v <;> first | exact ⟨_, rfl⟩ | (simp [isTupD] at ht)
      have hin := kd_inn hv
      have hC := et_not (et_test (ev_chain (K := K) (env := [some (.d (.tup xs)), some (.d (.int mr)), some (.d (.int ml)), none, none, none]) (S := S') (ev_int (i := 1)) (ev_cb (ea_cons (ev_var (i := 0) rfl) ea_nil) (cd_len .tup)) (o_le (K := K) (i := 1) (j := xs.length)) (fun _ => ev_var (i := 1) rfl) (fun _ => o_le (K := K) (i := xs.length) (j := mr))))
      by_cases hc : (decide ((1 : Int) ≤ xs.length) && decide ((xs.length : Int) ≤ mr)) = true
      case neg =>
        have hc : (decide ((1 : Int) ≤ xs.length) && decide ((xs.length : Int) ≤ mr)) = false := by simpa using hc
        rw [hc] at hC
        have e : asrB (.tup xs) mr ml = false := by
          cases xs with
          | nil => rfl
          | cons r0 rs =>
            unfold asrB
            rw [show decide ((1 : Int) ≤ (r0 :: rs).length) = true from decide_eq_true (by rw [List.length_cons]; omega), Bool.true_and] at hc
            show (decide (((r0 :: rs).length : Int) ≤ mr) && _) = false
            rw [hc]; rfl
        rw [e]
        exact sp_ifq (b := true) (et_orP (a := false) (b := true) hT fun _ => hC) (fun _ => sp_retq (sp_ret ev_bl ⟨rfl, List.take_length⟩)) (fun h => by cases h)
      case pos =>
        rw [hc] at hC
        refine sp_ifq (b := false) (et_orP (a := false) (b := false) hT fun _ => hC) (fun h => by cases h) fun _ => sp_nextq ?_
        clear hT hC
        cases xs with
        | nil => simp at hc
        | cons r0 rs =>
          rw [Bool.and_eq_true] at hc
          have h0 := hin r0 List.mem_cons_self
          have hT : EvT K _ [some (.d (.tup (r0 :: rs))), some (.d (.int mr)), some (.d (.int ml)), none, none, none] S' (!isTupD r0) S' := et_not (et_bl (ev_cb (ea_cons (ev_op (ev_var (i := 0) rfl) (ev_int (i := 0)) (op2_ix (d := r0) .tup at0)) (ea_cons ev_ty ea_nil)) (ck_tup h0)))
          have eq0 : asrB (.tup (r0 :: rs)) mr ml = (isTupD r0 && (decide (1 ≤ lenD r0) && decide ((lenD r0 : Int) ≤ ml)) && (r0 :: rs).all (rowB (lenD r0))) := by
            unfold asrB
            show (decide (((r0 :: rs).length : Int) ≤ mr) && _) = _
            rw [hc.2, Bool.true_and]
          rw [eq0]
          by_cases ht : isTupD r0 = true
          case neg =>
            have ht : isTupD r0 = false := by simpa using ht
            rw [ht] at hT ⊢
            exact sp_ifq (b := true) (et_orP (a := true) (b := false) hT fun h => by cases h) (fun _ => sp_retq (sp_ret ev_bl ⟨rfl, List.take_length⟩)) (fun h => by cases h)
          case pos =>
            have hC := et_not (et_test (ev_chain (K := K) (env := [some (.d (.tup (r0 :: rs))), some (.d (.int mr)), some (.d (.int ml)), none, none, none]) (S := S') (ev_int (i := 1)) (ev_cb (ea_cons (ev_op (ev_var (i := 0) rfl) (ev_int (i := 0)) (op2_ix (d := r0) .tup at0)) ea_nil) (cd_lenX ht)) (o_le (K := K) (i := 1) (j := lenD r0)) (fun _ => ev_var (i := 2) rfl) (fun _ => o_le (K := K) (i := lenD r0) (j := ml))))
            rw [ht] at hT ⊢
            have e1 : decide ((1 : Int) ≤ (lenD r0 : Int)) = decide (1 ≤ lenD r0) := by
              by_cases h : 1 ≤ lenD r0
              · rw [decide_eq_true h, decide_eq_true (by omega)]
              · rw [decide_eq_false h, decide_eq_false (by omega)]
            rw [e1] at hC
            by_cases hc2 : (decide (1 ≤ lenD r0) && decide ((lenD r0 : Int) ≤ ml)) = true
            case neg =>
              have hc2 : (decide (1 ≤ lenD r0) && decide ((lenD r0 : Int) ≤ ml)) = false := by simpa using hc2
              rw [hc2] at hC ⊢
              exact sp_ifq (b := true) (et_orP (a := false) (b := true) hT fun _ => hC) (fun _ => sp_retq (sp_ret ev_bl ⟨rfl, List.take_length⟩)) (fun h => by cases h)
            case pos =>
              rw [hc2] at hC ⊢
              refine sp_ifq (b := false) (et_orP (a := false) (b := false) hT fun _ => hC) (fun h => by cases h) fun _ => sp_nextq ?_
              refine sp_set (ev_cb (ea_cons (ev_op (ev_var rfl) ev_int (op2_ix (d := r0) .tup at0)) ea_nil) (cd_lenX ht)) ?_
              generalize hn : lenD r0 = n
              show SP K _ _ _ _ _
              refine sp_seq (P' := { nx := fun env' S2 => S2 = S' ∧ (r0 :: rs).all (rowB n) = true ∧ ∃ o1 o2, env' = [some (.d (.tup (r0 :: rs))), some (.d (.int mr)), some (.d (.int ml)), some (.d (.int n)), o1, o2] })
                (sp_for (it_tup (ev_var rfl)) (fun i env' S2 => S2 = S' ∧ ((r0 :: rs).take i).all (rowB n) = true ∧ ∃ o1 o2, env' = [some (.d (.tup (r0 :: rs))), some (.d (.int mr)), some (.d (.int ml)), some (.d (.int n)), o1, o2]) ⟨rfl, rfl, none, none, rfl⟩ (fun _ _ _ _ _ _ _ _ _ => trivial) ?_ ?_) ?_
              · rintro i row env' S2 hrow ⟨rfl, hall, o1, o2, rfl⟩
                have hk := hin row (List.mem_of_getElem? hrow)
                refine ⟨[4], fun env => env.set 4 (some (.d row)), tg_name, ?_⟩
                have hl := (List.getElem?_eq_some_iff.mp hrow).1
                have er : (r0 :: rs)[i] = row := (List.getElem?_eq_some_iff.mp hrow).2
                have bad : rowB n row = false → (r0 :: rs).all (rowB n) = false := fun h => by
                  rw [List.all_eq_false]
                  exact ⟨row, List.mem_of_getElem? hrow, by rw [h]; decide⟩
                have hT : EvT K _ [some (.d (.tup (r0 :: rs))), some (.d (.int mr)), some (.d (.int ml)), some (.d (.int n)), some (.d row), o2] S2 (!isTupD row) S2 := et_not (et_bl (ev_cb (ea_cons (ev_var (i := 4) rfl) (ea_cons ev_ty ea_nil)) (ck_tup hk)))
                by_cases ht : isTupD row = true
                case neg =>
                  have ht : isTupD row = false := by simpa using ht
                  rw [ht] at hT
                  have e : rowB n row = false := by cases row <;> first | rfl | (simp [isTupD] at ht)
                  exact sp_ifq (b := true) (et_orP (a := true) (b := false) hT fun h => by cases h) (fun _ => sp_retq (sp_ret ev_bl ⟨by rw [bad e]; rfl, List.take_length⟩)) (fun h => by cases h)
                case pos =>
                  have hC := et_test (ev_op (K := K) (env := [some (.d (.tup (r0 :: rs))), some (.d (.int mr)), some (.d (.int ml)), some (.d (.int n)), some (.d row), o2]) (S := S2) (ev_cb (ea_cons (ev_var (i := 4) rfl) ea_nil) (cd_lenX ht)) (ev_var (i := 3) rfl) (op2_ne_int (K := K) (i := (lenD row : Int)) (j := (n : Int))))
                  rw [ht] at hT
                  obtain ⟨ys, rfl⟩ : ∃ ys, row = .tup ys := by cases row <;> first | exact ⟨_, rfl⟩ | (simp [isTupD] at ht)
                  by_cases hlen : ys.length = n
                  case neg =>
                    have e : rowB n (.tup ys) = false := by show (decide (ys.length = n) && ys.all shD) = false; rw [decide_eq_false hlen]; rfl
                    refine sp_ifq (b := true) (et_orP (a := false) (b := true) hT fun _ => hC.to ?_) (fun _ => sp_retq (sp_ret ev_bl ⟨by rw [bad e]; rfl, List.take_length⟩)) (fun h => by cases h)
                    show (!decide _) = true
                    rw [decide_eq_false (by show ¬ ((ys.length : Int) = n); omega)]; rfl
                  case pos =>
                    refine sp_ifq (b := false) (et_orP (a := false) (b := false) hT fun _ => hC.to ?_) (fun h => by cases h) fun _ => sp_nextq ?_
                    · show (!decide _) = false
                      rw [decide_eq_true (by show (ys.length : Int) = n; omega)]; rfl
                    · have hys := kd_inn hk
                      refine (sp_for (it_tup (ev_var rfl)) (fun j env' S3 => S3 = S2 ∧ (ys.take j).all shD = true ∧ ∃ o2, env' = [some (.d (.tup (r0 :: rs))), some (.d (.int mr)), some (.d (.int ml)), some (.d (.int n)), some (.d (.tup ys)), o2]) ⟨rfl, rfl, o2, rfl⟩ (fun _ _ _ _ _ _ _ _ _ => trivial) ?_ ?_)
                      · rintro j x env' S3 hx ⟨rfl, hal, o3, rfl⟩
                        refine ⟨[5], fun env => env.set 5 (some (.d x)), tg_name, ?_⟩
                        have hB := et_bad (K := K) (S := S3) (i := 5) (env := [some (.d (.tup (r0 :: rs))), some (.d (.int mr)), some (.d (.int ml)), some (.d (.int n)), some (.d (.tup ys)), some (.d x)]) (hys x (List.mem_of_getElem? hx)) rfl
                        have hlx := (List.getElem?_eq_some_iff.mp hx).1
                        have ex : ys[j] = x := (List.getElem?_eq_some_iff.mp hx).2
                        cases hs : shD x with
                        | false =>
                          rw [hs] at hB
                          refine sp_if (b := true) hB (fun _ => sp_ret ev_bl ⟨?_, List.take_length⟩) (fun h => by cases h)
                          have e : rowB n (.tup ys) = false := by
                            show (decide (ys.length = n) && ys.all shD) = false
                            rw [decide_eq_true hlen, Bool.true_and, List.all_eq_false]
                            exact ⟨x, List.mem_of_getElem? hx, by rw [hs]; decide⟩
                          rw [bad e]; rfl
                        | true =>
                          rw [hs] at hB
                          refine sp_if (b := false) hB (fun h => by cases h) fun _ => sp_next ⟨rfl, ?_, _, rfl⟩
                          rw [List.take_succ_eq_append_getElem hlx, List.all_append, hal, ex]
                          simp [hs]
                      · rintro env' S3 ⟨rfl, hal, o3, rfl⟩
                        refine ⟨rfl, ?_, _, _, rfl⟩
                        rw [List.take_length] at hal
                        rw [List.take_succ_eq_append_getElem hl, List.all_append, hall, er]
                        simp [rowB, hlen, hal]
              · rintro env' S2 ⟨rfl, hall, o1, o2, rfl⟩
                rw [List.take_length] at hall
                exact ⟨rfl, hall, o1, o2, rfl⟩
              · rintro env' S2 ⟨rfl, hall, o1, o2, rfl⟩
                exact sp_ret ev_bl ⟨by rw [hall]; rfl, List.take_length⟩
end
end N03

set_option Elab.async false
set_option linter.all false
set_option maxRecDepth 100000
set_option maxHeartbeats 4000000
namespace N03
open PySem PySem.Spec PyProof.Rows L2 RW

theorem size_1000 {n : Nat} (h : n ≤ 1000) : n ≤ sizeLine := Nat.le_trans h (by decide)
abbrev rowD (u : List Int) : Dat := .tup (u.map Dat.int)
def isI : Dat → Bool
  | .int _ => true
  | _ => false
def wrowB (d : Dat) (n : Nat) : Bool := match d with
  | .tup xs => decide (xs.length = n) && xs.all isI
  | _ => false
def intsF (d : Dat) : List Int := (innD d).map RW.intD
def areWB (d : Dat) (n : Nat) : Bool := wrowB d n && decide (0 ≤ mnL (intsF d))
def toldB (d : Dat) (w : Str) (m : Nat) : Bool := match d with
  | .tup (x :: xs) => decide ((x :: xs).length = m) && eqD x (.str w)
  | _ => false
def partD (d : Dat) (i : Nat) : Dat := (innD d).getD i .non
theorem isI_int {d : Dat} (h : isI d = true) : d = .int (RW.intD d) := by
  cases d <;> first | rfl | (simp [isI] at h)
theorem all_isI {xs : List Dat} (h : xs.all isI = true) : xs = (xs.map RW.intD).map Dat.int := by
  induction xs with
  | nil => rfl
  | cons x xs ih =>
    rw [List.all_cons, Bool.and_eq_true] at h
    rw [List.map_cons, List.map_cons, ← ih h.2, ← isI_int h.1]
theorem wrow_row {d : Dat} {n : Nat} (h : wrowB d n = true) : d = rowD (intsF d) ∧ (intsF d).length = n := by
  unfold wrowB at h
  cases d with
  | tup xs =>
    rw [Bool.and_eq_true] at h
    refine ⟨?_, ?_⟩
    · show Dat.tup xs = .tup ((xs.map RW.intD).map Dat.int)
      rw [← all_isI h.2]
    · show (xs.map RW.intD).length = n
      rw [List.length_map]; exact of_decide_eq_true h.1
  | _ => cases h
theorem part_at {xs : List Dat} {i : Nat} (h : i < xs.length) : atI xs (i : Int) = some (partD (.tup xs) i) := by
  have := atI_n h
  rw [this]
  unfold partD innD
  rw [List.getD_eq_getElem?_getD, List.getElem?_eq_getElem h]; rfl
def gInt (ss : List Sl) (S : List Dat) (r : Dat) (S' : List Dat) : Prop := ∃ d : Dat, ss = [.d d] ∧ KD d ∧ r = .bl (isI d) ∧ S' = S
def gWholes (ss : List Sl) (S : List Dat) (r : Dat) (S' : List Dat) : Prop := ∃ xs : List Dat, ss = [.d (.tup xs)] ∧ (∀ x ∈ xs, KD x) ∧ r = .bl (xs.all isI) ∧ S' = S
def gWRow (ss : List Sl) (S : List Dat) (r : Dat) (S' : List Dat) : Prop := ∃ (d : Dat) (n : Nat), ss = [.d d, .d (.int n)] ∧ KD d ∧ r = .bl (wrowB d n) ∧ S' = S
def gAreW (ss : List Sl) (S : List Dat) (r : Dat) (S' : List Dat) : Prop := ∃ (d : Dat) (n : Nat), ss = [.d d, .d (.int n)] ∧ KD d ∧ 1 ≤ n ∧ r = .bl (areWB d n) ∧ S' = S
theorem et_is {K : PySem.W.Frag} {env : Env1} {S : List Dat} {d : Dat} {i : Nat} (hd : KD d) (he : env[i]? = some (some (.d d))) :
    EvT K (tOr (tNot (tTru K (tCB (rIsi K) (tCons (tVar i) (tCons (tC (.ty "int")) tNil))))) (tOr (tTest (tOp (rIsX false) (tVar i) (tC (.bl true)))) (tTest (tOp (rIsX false) (tVar i) (tC (.bl false)))))) env S (!isI d) S := by
  have h1 : EvT K (tNot (tTru K (tCB (rIsi K) (tCons (tVar i) (tCons (tC (.ty "int")) tNil))))) env S (!isIntD d) S := et_not (et_bl (ev_cb (ea_cons (ev_var he) (ea_cons ev_ty ea_nil)) (ck_int hd)))
  by_cases hi : isIntD d = true
  · rw [hi] at h1
    cases d <;> first
      | (cases hi)
      | skip
    · rename_i v
      refine et_orP (a := false) (b := true) h1 fun _ => ?_
      cases v
      · exact et_orP (a := false) (b := true) (et_test (ev_op (ev_var he) ev_bl (o_isX_blE rfl))) fun _ => et_test (ev_op (ev_var he) ev_bl (o_isX_blE rfl))
      · exact et_orP (a := true) (b := false) (et_test (ev_op (ev_var he) ev_bl (o_isX_blE rfl))) fun h => by cases h
    · rename_i v
      refine et_orP (a := false) (b := false) h1 fun _ => et_orP (a := false) (b := false) (et_test (ev_op (ev_var he) ev_bl o_isX_int)) fun _ => et_test (ev_op (ev_var he) ev_bl o_isX_int)
  · have hf : isIntD d = false := by simpa using hi
    rw [hf] at h1
    have e : isI d = false := by cases d <;> first | rfl | (simp [isIntD] at hf)
    rw [e]
    exact et_orP (a := true) (b := false) h1 fun h => by cases h
theorem len_eq {K : PySem.W.Frag} {S : List Dat} {xs : List Dat} {n : Nat} : Op2 K rEq (.d (.int ((xs.length : Nat) : Int))) (.d (.int (n : Int))) S (.bl (decide (xs.length = n))) := by
  have := @op2_eq_int K S ((xs.length : Nat) : Int) (n : Int)
  have e : decide (((xs.length : Nat) : Int) = (n : Int)) = decide (xs.length = n) := decide_eq_decide.mpr ⟨fun h => by omega, fun h => by omega⟩
  rwa [e] at this
theorem tup_of {d : Dat} (h : isTupD d = true) : ∃ xs, d = .tup xs := by
  cases d <;> first | exact ⟨_, rfl⟩ | (simp [isTupD] at h)
theorem not_tup {d : Dat} (h : isTupD d = false) (n : Nat) : wrowB d n = false := by
  cases d <;> first | rfl | (simp [isTupD] at h)
theorem not_told {d : Dat} (h : isTupD d = false) (w : Str) (n : Nat) : toldB d w n = false := by
  cases d <;> first | rfl | (simp [isTupD] at h)
def gShort (ss : List Sl) (S : List Dat) (r : Dat) (S' : List Dat) : Prop := ∃ d : Dat, ss = [.d d] ∧ KD d ∧ r = .bl (shD d) ∧ S' = S
def gShorts (ss : List Sl) (S : List Dat) (r : Dat) (S' : List Dat) : Prop := ∃ xs : List Dat, ss = [.d (.tup xs)] ∧ (∀ x ∈ xs, KD x) ∧ r = .bl (xs.all shD) ∧ S' = S
def srB (d : Dat) (lo hi : Int) : Bool := match d with
  | .tup xs => (decide (lo ≤ (xs.length : Int)) && decide ((xs.length : Int) ≤ hi)) && xs.all shD
  | _ => false
def gSRow (ss : List Sl) (S : List Dat) (r : Dat) (S' : List Dat) : Prop := ∃ (d : Dat) (lo hi : Int), ss = [.d d, .d (.int lo), .d (.int hi)] ∧ KD d ∧ r = .bl (srB d lo hi) ∧ S' = S
def gTold (ss : List Sl) (S : List Dat) (r : Dat) (S' : List Dat) : Prop := ∃ (k : Nat) (d : Dat) (w : Str), ss = [.d d, .d (.str w), .d (.int k)] ∧ KD d ∧ (∀ x xs, d = .tup (x :: xs) → Pl 0 x) ∧ 1 ≤ k ∧ (PyData.str w).canLay0 = true ∧ r = .bl (toldB d w k) ∧ S' = S
theorem not_sr {d : Dat} (h : isTupD d = false) (a b : Int) : srB d a b = false := by
  cases d <;> first | rfl | (simp [isTupD] at h)
theorem shD_isI {d : Dat} (h : isI d = false) : shD d = false := by
  cases d <;> first | rfl | (simp [isI] at h)
section
variable {P : Program} {w : World} {K : PySem.W.Frag} {mg : Str → Option Value} {base : Heap}

theorem ok_InvalidNumberu_initu (T : Txt K mg) : FnOk P w K mg base CX0 1 T.a_InvalidNumberu_initu T.d_InvalidNumberu_initu ["self", "given"] (spXg K T.a_InvalidNumber "given") := by
  refine T.F_InvalidNumberu_initu.ok sc_InvalidNumberu_initu spxg_len (fun cdv A outer s H vs Q E hr h => ⟨_, pss_one (ps_xset (pv 0) (pv 1)), spxg_body h rfl⟩)
theorem ok_Refusedu_initu (T : Txt K mg) : FnOk P w K mg base CX0 1 T.a_Refusedu_initu T.d_Refusedu_initu ["self", "reason"] (spXg K T.a_Refused "reason") := by
  refine T.F_Refusedu_initu.ok sc_Refusedu_initu spxg_len (fun cdv A outer s H vs Q E hr h => ⟨_, pss_one (ps_xset (pv 0) (pv 1)), spxg_body h rfl⟩)
theorem ok_is_whole (T : Txt K mg) : FnOk P w K mg base CX0 1 T.a_is_whole T.d_is_whole ["value"] (SpD K (gInt)) := by
  refine T.F_is_whole.ok sc_is_whole (spd_len (k := 1) fun ss S r S' hg => ?_) (fun cdv A outer s H vs Q E hr h => ⟨_, (pss_one (ps_ret (pe_and (pe_callB call_isi (by rfl) T.n_isinstance (by decide +kernel) (pa_cons (pv 0) (pa_cons (pe_bltn (v := .ty "int") (by rfl) T.n_int (by decide +kernel) rfl) pa_nil))) (pe_and (pe_cmpR op_notX (pv 0) pe_bl (nomark _)) (pe_one (pe_cmpR op_notX (pv 0) pe_bl (nomark _))))))), sp_body h fun ss S r S' hg => ?_⟩)
  · obtain ⟨i, rfl, _⟩ := hg; rfl
  · obtain ⟨d, rfl, hd, rfl, rfl⟩ := hg
    refine sp_ret (d := .bl (isI d)) ?_ ⟨rfl, List.take_length⟩
    have h1 : ∀ {env : Env1} {S : List Dat}, env[0]? = some (some (.d d)) → Ev K (tCB (rIsi K) (tCons (tVar 0) (tCons (tC (.ty "int")) tNil))) env S (.d (.bl (isIntD d))) S := fun he => ev_cb (ea_cons (ev_var he) (ea_cons ev_ty ea_nil)) (ck_int hd)
    by_cases hi : isIntD d = true
    · cases d <;> first
        | (cases hi)
        | skip
      · rename_i v
        cases v
        · exact ev_andV (a := true) (b := false) (Ev.to (h1 rfl) rfl) fun _ => ev_andV (a := true) (b := false) (ev_op (ev_var rfl) ev_bl (o_isX_blE rfl)) fun _ => ev_op (ev_var rfl) ev_bl (o_isX_blE rfl)
        · exact ev_andV (a := true) (b := false) (Ev.to (h1 rfl) rfl) fun _ => ev_andV (a := false) (b := false) (ev_op (ev_var rfl) ev_bl (o_isX_blE rfl)) fun h => by cases h
      · exact ev_andV (a := true) (b := true) (Ev.to (h1 rfl) rfl) fun _ => ev_andV (a := true) (b := true) (ev_op (ev_var rfl) ev_bl o_isX_int) fun _ => ev_op (ev_var rfl) ev_bl o_isX_int
    · have hf : isIntD d = false := by simpa using hi
      have e : isI d = false := by cases d <;> first | rfl | (simp [isIntD] at hf)
      rw [e]
      exact ev_andV (a := false) (b := false) (Ev.to (h1 rfl) (by rw [hf])) fun h => by cases h
theorem ok_are_whole (T : Txt K mg) : FnOk P w K mg base CX0 1 T.a_are_whole T.d_are_whole ["values"] (SpD K (gWholes)) := by
  refine T.F_are_whole.ok sc_are_whole (spd_len (k := 1) fun ss S r S' hg => ?_) (fun cdv A outer s H vs Q E hr h => ⟨_, (pss_cons (ps_for PassesOwn.never rfl (pi_seqK K (pv 0)) (pg_name (i := 1) sc_are_whole.nd rfl (by first | exact Or.inl rfl | exact Or.inr rfl)) (pss_one (ps_if (PW.pt (pw_or (pt_not (pt_truK K (pe_callB call_isi (by rfl) T.n_isinstance (by decide +kernel) (pa_cons (pv 1) (pa_cons (pe_bltn (v := .ty "int") (by rfl) T.n_int (by decide +kernel) rfl) pa_nil))))) (pw_or (pt_cmpR op_isX (pv 1) pe_bl (nomark _)) (pw_or1 (pt_cmpR op_isX (pv 1) pe_bl (nomark _)))))) (pss_one (ps_ret pe_bl)) pss_nil))) (pss_one (ps_ret pe_bl))), sp_body h fun ss S r S' hg => ?_⟩)
  · obtain ⟨i, rfl, _⟩ := hg; rfl
  · obtain ⟨xs, rfl, hk, rfl, rfl⟩ := hg
    refine sp_seq (P' := { nx := fun env' S2 => S2 = S' ∧ xs.all isI = true ∧ ∃ o1, env' = [some (.d (.tup xs)), o1] })
      (sp_forA (xs := xs) (g := id) (it_tup (Ev.to (ev_var rfl) (by rw [List.map_id]))) (fun i env' S2 => S2 = S' ∧ (xs.take i).all isI = true ∧ ∃ o1, env' = [some (.d (.tup xs)), o1]) ⟨rfl, rfl, none, rfl⟩ (fun _ _ _ _ _ _ _ _ _ => trivial) ?_ ?_) ?_
    · rintro i x env' S2 hx ⟨rfl, ha, o1, rfl⟩
      refine ⟨[1], fun env => env.set 1 (some (.d x)), tg_name, ?_⟩
      refine sp_if (b := !isI x) (et_is (hk x (List.mem_of_getElem? hx)) rfl) (fun h => ?_) fun h => sp_next ⟨rfl, ?_, _, rfl⟩
      · refine sp_ret ev_bl ⟨?_, List.take_length⟩
        have hf : isI x = false := by simpa using h
        have : xs.all isI = false := List.all_eq_false.mpr ⟨x, List.mem_of_getElem? hx, by rw [hf]; decide⟩
        rw [this]
      · have ht : isI x = true := by simpa using h
        obtain ⟨hl, e⟩ := List.getElem?_eq_some_iff.mp hx
        rw [List.take_succ_eq_append_getElem hl, e, List.all_append, ha]
        simp [ht]
    · rintro env' S2 ⟨rfl, ha, o1, rfl⟩
      rw [List.take_length] at ha
      exact ⟨rfl, ha, o1, rfl⟩
    · rintro env' S2 ⟨rfl, ha, o1, rfl⟩
      exact sp_ret ev_bl ⟨by rw [ha], List.take_length⟩
theorem ok_is_whole_row (T : Txt K mg) : FnOk P w K mg base CX0 2 T.a_is_whole_row T.d_is_whole_row ["value", "many"] (SpD K (gWRow)) := by
  have G_are_whole := ok_are_whole (P := P) (w := w) (base := base) T
  have b_are_whole := T.b_are_whole
  refine T.F_is_whole_row.ok sc_is_whole_row (spd_len (k := 2) fun ss S r S' hg => ?_) (fun cdv A outer s H vs Q E hr h => ⟨_, (pss_one (ps_ret (pe_and (pe_callB call_isi (by rfl) T.n_isinstance (by decide +kernel) (pa_cons (pv 0) (pa_cons (pe_bltn (v := .ty "tuple") (by rfl) T.n_tuple (by decide +kernel) rfl) pa_nil))) (pe_and (pe_cmpR op_eq (pe_callB (call_lenK K) (by rfl) T.n_len (by decide +kernel) (pa_cons (pv 0) pa_nil)) (pv 1) (nomark _)) (pe_one (pe_call G_are_whole (hr.mono (by decide)) rfl T.m_are_whole T.k_are_whole b_are_whole .nil pass0 (pa_cons (pv 0) pa_nil))))))), sp_body h fun ss S r S' hg => ?_⟩)
  · obtain ⟨d, n, rfl, _⟩ := hg; rfl
  · obtain ⟨d, n, rfl, hd, rfl, rfl⟩ := hg
    refine sp_ret (d := .bl (wrowB d n)) ?_ ⟨rfl, List.take_length⟩
    cases ht : isTupD d with
    | false =>
      rw [not_tup ht]
      exact ev_andV (a := false) (b := false) (Ev.to (ev_cb (ea_cons (ev_var rfl) (ea_cons ev_ty ea_nil)) (ck_tup hd)) (by rw [ht])) fun h => by cases h
    | true =>
      obtain ⟨xs, rfl⟩ := tup_of ht
      have hx : ∀ x ∈ xs, KD x := by cases hd with | tup h l => exact h
      exact ev_andV (a := true) (ev_cb (ea_cons (ev_var rfl) (ea_cons ev_ty ea_nil)) (ck_tup hd)) fun _ => ev_andV (ev_op (ev_cb (ea_cons (ev_var rfl) ea_nil) (cd_len .tup)) (ev_var rfl) len_eq) fun _ => ev_call (ea_cons (ev_var rfl) ea_nil) ⟨xs, rfl, hx, rfl, rfl⟩
theorem ok_is_told (T : Txt K mg) : FnOk P w K mg base CX0 1 T.a_is_told T.d_is_told ["value", "word", "many"] (SpD K (gTold)) := by
  refine T.F_is_told.ok sc_is_told (spd_len (k := 3) fun ss S r S' hg => ?_) (fun cdv A outer s H vs Q E hr h => ⟨_, (pss_one (ps_ret (pe_and (pe_callB call_isi (by rfl) T.n_isinstance (by decide +kernel) (pa_cons (pv 0) (pa_cons (pe_bltn (v := .ty "tuple") (by rfl) T.n_tuple (by decide +kernel) rfl) pa_nil))) (pe_and (pe_cmpR op_eq (pe_callB (call_lenK K) (by rfl) T.n_len (by decide +kernel) (pa_cons (pv 0) pa_nil)) (pv 2) (nomark _)) (pe_one (pe_cmpR (op_eqDK K hr.units) (pe_ix (ix_seqK K) (pv 0) pe_int (fun _ _ => rfl)) (pv 1) (nomark _))))))), sp_body h fun ss S r S' hg => ?_⟩)
  · obtain ⟨k, d, w, rfl, _⟩ := hg; rfl
  · obtain ⟨k, d, w, rfl, hd, hp, k1, hw, rfl, rfl⟩ := hg
    refine sp_ret (d := .bl (toldB d w k)) ?_ ⟨rfl, List.take_length⟩
    cases ht : isTupD d with
    | false =>
      rw [not_told ht]
      exact ev_andV (a := false) (b := false) (Ev.to (ev_cb (ea_cons (ev_var rfl) (ea_cons ev_ty ea_nil)) (ck_tup hd)) (by rw [ht])) fun h => by cases h
    | true =>
      obtain ⟨xs, rfl⟩ := tup_of ht
      cases xs with
      | nil =>
        refine ev_andV (a := true) (b := false) (ev_cb (ea_cons (ev_var rfl) (ea_cons ev_ty ea_nil)) (ck_tup hd)) fun _ => ev_andV (a := false) (b := false) (Ev.to (ev_op (ev_cb (ea_cons (ev_var rfl) ea_nil) (cd_len .tup)) (ev_var rfl) len_eq) ?_) fun h => by cases h
        rw [decide_eq_false (by simp; omega)]
      | cons x xs =>
        refine Ev.to (ev_andV (a := true) (ev_cb (ea_cons (ev_var rfl) (ea_cons ev_ty ea_nil)) (ck_tup hd)) fun _ => ev_andV (ev_op (ev_cb (ea_cons (ev_var rfl) ea_nil) (cd_len .tup)) (ev_var rfl) len_eq) fun _ => ev_op (ev_op (d := x) (ev_var rfl) ev_int (op2_ix .tup (by simp [atI, ixN]))) (ev_var rfl) (op2_eqD (plS_d (hp x xs rfl)) (plS_d (Pl.str (m := 0) hw)) (by decide) (by decide))) (by rw [Bool.true_and]; rfl)
theorem ok_is_short (T : Txt K mg) : FnOk P w K mg base CX0 2 T.a_is_short T.d_is_short ["value"] (SpD K (gShort)) := by
  have G_is_whole := ok_is_whole (P := P) (w := w) (base := base) T
  have b_is_whole := T.b_is_whole
  refine T.F_is_short.ok sc_is_short (spd_len (k := 1) fun ss S r S' hg => ?_) (fun cdv A outer s H vs Q E hr h => ⟨_, (pss_one (ps_ret (pe_and (pe_call G_is_whole (hr.mono (by decide)) rfl T.m_is_whole T.k_is_whole b_is_whole .nil pass0 (pa_cons (pv 0) pa_nil)) (pe_one (pe_chain op_lt op_lt (pe_glob (v := .int (-(10 ^ 60))) rfl T.m_BENEATH ⟨_, rfl⟩) (pv 0) (pe_glob (v := .int (10 ^ 60)) rfl T.m_BEYOND ⟨_, rfl⟩)))))), sp_body h fun ss S r S' hg => ?_⟩)
  · obtain ⟨d, rfl, _⟩ := hg; rfl
  · obtain ⟨d, rfl, hd, rfl, rfl⟩ := hg
    refine sp_ret (d := .bl (shD d)) ?_ ⟨rfl, List.take_length⟩
    cases hi : isI d with
    | false =>
      rw [shD_isI hi]
      exact ev_andV (a := false) (b := false) (Ev.to (ev_call (ea_cons (ev_var rfl) ea_nil) ⟨d, rfl, hd, rfl, rfl⟩) (by rw [hi])) fun h => by cases h
    | true =>
      have e := isI_int hi
      generalize RW.intD d = i at e
      subst e
      exact Ev.to (ev_andV (a := true) (b := decide (-(10 ^ 60) < i) && decide (i < 10 ^ 60)) (ev_call (ea_cons (ev_var rfl) ea_nil) ⟨.int i, rfl, hd, rfl, rfl⟩) fun _ => ev_chain ev_int (ev_var rfl) o_lt (fun _ => ev_int) fun _ => o_lt) rfl
theorem ok_are_short (T : Txt K mg) : FnOk P w K mg base CX0 1 T.a_are_short T.d_are_short ["values"] (SpD K (gShorts)) := by
  refine T.F_are_short.ok sc_are_short (spd_len (k := 1) fun ss S r S' hg => ?_) (fun cdv A outer s H vs Q E hr h => ⟨_, (pss_cons (ps_for PassesOwn.never rfl (pi_seqK K (pv 0)) (pg_name (i := 1) sc_are_short.nd rfl (by first | exact Or.inl rfl | exact Or.inr rfl)) (pss_one (ps_if (PW.pt (pw_or (pt_not (pt_truK K (pe_callB call_isi (by rfl) T.n_isinstance (by decide +kernel) (pa_cons (pv 1) (pa_cons (pe_bltn (v := .ty "int") (by rfl) T.n_int (by decide +kernel) rfl) pa_nil))))) (pw_or (pt_cmpR op_isX (pv 1) pe_bl (nomark _)) (pw_or (pt_cmpR op_isX (pv 1) pe_bl (nomark _)) (pw_or (pt_cmpR op_le (pv 1) (pe_glob (v := .int (-(10 ^ 60))) rfl T.m_BENEATH ⟨_, rfl⟩) (nomark _)) (pw_or1 (pt_cmpR op_ge (pv 1) (pe_glob (v := .int (10 ^ 60)) rfl T.m_BEYOND ⟨_, rfl⟩) (nomark _)))))))) (pss_one (ps_ret pe_bl)) pss_nil))) (pss_one (ps_ret pe_bl))), sp_body h fun ss S r S' hg => ?_⟩)
  · obtain ⟨i, rfl, _⟩ := hg; rfl
  · obtain ⟨xs, rfl, hk, rfl, rfl⟩ := hg
    refine sp_seq (P' := { nx := fun env' S2 => S2 = S' ∧ xs.all shD = true ∧ ∃ o1, env' = [some (.d (.tup xs)), o1] })
      (sp_forA (xs := xs) (g := id) (it_tup (Ev.to (ev_var rfl) (by rw [List.map_id]))) (fun i env' S2 => S2 = S' ∧ (xs.take i).all shD = true ∧ ∃ o1, env' = [some (.d (.tup xs)), o1]) ⟨rfl, rfl, none, rfl⟩ (fun _ _ _ _ _ _ _ _ _ => trivial) ?_ ?_) ?_
    · rintro i x env' S2 hx ⟨rfl, ha, o1, rfl⟩
      refine ⟨[1], fun env => env.set 1 (some (.d x)), tg_name, ?_⟩
      refine sp_if (b := !shD x) (et_bad (hk x (List.mem_of_getElem? hx)) rfl) (fun h => ?_) fun h => sp_next ⟨rfl, ?_, _, rfl⟩
      · refine sp_ret ev_bl ⟨?_, List.take_length⟩
        have hf : shD x = false := by simpa using h
        have : xs.all shD = false := List.all_eq_false.mpr ⟨x, List.mem_of_getElem? hx, by rw [hf]; decide⟩
        rw [this]
      · have ht : shD x = true := by simpa using h
        obtain ⟨hl, e⟩ := List.getElem?_eq_some_iff.mp hx
        rw [List.take_succ_eq_append_getElem hl, e, List.all_append, ha]
        simp [ht]
    · rintro env' S2 ⟨rfl, ha, o1, rfl⟩
      rw [List.take_length] at ha
      exact ⟨rfl, ha, o1, rfl⟩
    · rintro env' S2 ⟨rfl, ha, o1, rfl⟩
      exact sp_ret ev_bl ⟨by rw [ha], List.take_length⟩
theorem ok_is_short_row (T : Txt K mg) : FnOk P w K mg base CX0 2 T.a_is_short_row T.d_is_short_row ["value", "least", "most"] (SpD K (gSRow)) := by
  have G_are_short := ok_are_short (P := P) (w := w) (base := base) T
  have b_are_short := T.b_are_short
  refine T.F_is_short_row.ok sc_is_short_row (spd_len (k := 3) fun ss S r S' hg => ?_) (fun cdv A outer s H vs Q E hr h => ⟨_, (pss_one (ps_ret (pe_and (pe_callB call_isi (by rfl) T.n_isinstance (by decide +kernel) (pa_cons (pv 0) (pa_cons (pe_bltn (v := .ty "tuple") (by rfl) T.n_tuple (by decide +kernel) rfl) pa_nil))) (pe_and (pe_chain op_le op_le (pv 1) (pe_callB (call_lenK K) (by rfl) T.n_len (by decide +kernel) (pa_cons (pv 0) pa_nil)) (pv 2)) (pe_one (pe_call G_are_short (hr.mono (by decide)) rfl T.m_are_short T.k_are_short b_are_short .nil pass0 (pa_cons (pv 0) pa_nil))))))), sp_body h fun ss S r S' hg => ?_⟩)
  · obtain ⟨d, lo, hi, rfl, _⟩ := hg; rfl
  · obtain ⟨d, lo, hi, rfl, hd, rfl, rfl⟩ := hg
    refine sp_ret (d := .bl (srB d lo hi)) ?_ ⟨rfl, List.take_length⟩
    cases ht : isTupD d with
    | false =>
      rw [not_sr ht]
      exact ev_andV (a := false) (b := false) (Ev.to (ev_cb (ea_cons (ev_var rfl) (ea_cons ev_ty ea_nil)) (ck_tup hd)) (by rw [ht])) fun h => by cases h
    | true =>
      obtain ⟨xs, rfl⟩ := tup_of ht
      have hx : ∀ x ∈ xs, KD x := by cases hd with | tup h l => exact h
      exact ev_andV (a := true) (ev_cb (ea_cons (ev_var rfl) (ea_cons ev_ty ea_nil)) (ck_tup hd)) fun _ => ev_andV (ev_chain (ev_var rfl) (ev_cb (ea_cons (ev_var rfl) ea_nil) (cd_len .tup)) o_le (fun _ => ev_var rfl) fun _ => o_le) fun _ => ev_call (ea_cons (ev_var rfl) ea_nil) ⟨xs, rfl, hx, rfl, rfl⟩
end
end N03

set_option Elab.async false
set_option linter.all false
set_option maxRecDepth 100000
set_option maxHeartbeats 4000000
namespace N03
open PySem PySem.Spec PyProof.Rows L2 RW

def Sh (i : Int) : Prop := -(10 ^ 60) < i ∧ i < 10 ^ 60
def addR (a b : List Int) : List Int := (a.zip b).map fun p => p.1 + p.2
theorem o_mulW {K : PySem.W.Frag} {S : List Dat} {i j : Int} (h : CMulW i j) : Op2 K (rI CMulW fun i j => V.int (i * j)) (.d (.int i)) (.d (.int j)) S (.int (i * j)) := op2_int h fun B => .int _
theorem o_isNN {K : PySem.W.Frag} {S : List Dat} : Op2 K (fun x y H Q => y = V.non ∧ Q (.bl (decide (x = V.non))) H) (.d .non) (.d .non) S (.bl true) := fun B H as v w c r1 r2 Q q => by
  cases r1; cases r2
  exact ⟨rfl, q _ B H c Evo.refl (.bl _)⟩
theorem o_isNI {K : PySem.W.Frag} {S : List Dat} {i : Int} : Op2 K (fun x y H Q => y = V.non ∧ Q (.bl (decide (x = V.non))) H) (.d (.int i)) (.d .non) S (.bl false) := fun B H as v w c r1 r2 Q q => by
  cases r1; cases r2
  exact ⟨rfl, q _ B H c Evo.refl (.bl _)⟩
theorem sp_contq {K : PySem.W.Frag} {n : Nat} {env : Env1} {S : List Dat} {P : Post} {v : TS} (h : P.ct env S) : SP K n (tSeq tCont v) env S P := fun B0 H0 as0 Bk B H as σ hl f c g D m => m.ct env S B H as σ f c g h
theorem ixN_nat {m p : Nat} (h : p < m) : ixN m (p : Int) = some p := by
  unfold ixN
  simp
  omega
theorem rep_flatP {α : Type} (a : α) : ∀ n : Nat, (List.replicate n [a]).flatten = List.replicate n a
  | 0 => rfl
  | n + 1 => by rw [List.replicate_succ, List.flatten_cons, rep_flatP a n, List.replicate_succ]; rfl
def itD (p : List Int × Nat) : Dat := .tup [.int (p.2 : Nat), .lst (p.1.map Dat.int)]
def gSum (ss : List Sl) (S : List Dat) (r : Dat) (S' : List Dat) : Prop := ∃ (u v : List Int), ss = [.d (rowD u), .d (rowD v)] ∧ u.length ≤ 1000 ∧ r = rowD (addR u v) ∧ S' = S
def gTimes (ss : List Sl) (S : List Dat) (r : Dat) (S' : List Dat) : Prop := ∃ (u : List Int) (c : Int), ss = [.d (rowD u), .d (.int c)] ∧ u.length ≤ 1000 ∧ (∀ x ∈ u, CMulW c x) ∧ r = rowD (u.map fun x => c * x) ∧ S' = S
def gCont (ss : List Sl) (S : List Dat) (r : Dat) (S' : List Dat) : Prop := ∃ (n : Nat), ss = [.d (rowD (List.replicate n 0))] ∧ r = .int 0 ∧ S' = S
def ONEL : List Int := List.replicate 16 1
def ZEROL : List Int := List.replicate 16 0
def gStep (ss : List Sl) (S : List Dat) (r : Dat) (S' : List Dat) : Prop := ss = [.d (.lst (ONEL.map Dat.int)), .d (.lst (ONEL.map Dat.int)), .d (.int 0), .d (.int 1)] ∧ r = .lst (ZEROL.map Dat.int) ∧ S' = S
def gFw (ss : List Sl) (S : List Dat) (r : Dat) (S' : List Dat) : Prop := ∃ (k : Nat) (L : List (List Int × Nat)) (col : Nat), ss = [.c k, .d (.int (col : Nat))] ∧ S[k]? = some (.lst (L.map itD)) ∧ (∀ p ∈ L, col < p.1.length) ∧
  ((∃ p L', L = p :: L' ∧ p.1[col]? ≠ some 0 ∧ r = .int 0) ∨ ((∀ p ∈ L, p.1[col]? = some 0) ∧ r = .non)) ∧ S' = S
def L0 : List (List Int × Nat) := (List.replicate 400 ONEL).zipIdx
def Z0 : List (List Int × Nat) := (L0.eraseIdx 0).map fun p => (ZEROL, p.2)
def ONES : Dat := .tup ((List.replicate 400 ONEL).map rowD)
def gElim (ss : List Sl) (S : List Dat) (r : Dat) (S' : List Dat) : Prop := ss = [.d ONES] ∧ r = .tup [.lst [.int 0], .lst [.int 0], .int 1] ∧ S' = S
theorem l0_len : L0.length = 400 := by unfold L0; rw [List.length_zipIdx, List.length_replicate]
theorem l0_one : ∀ p ∈ L0, p.1 = ONEL := fun p hp => by
  obtain ⟨i, hi⟩ := List.mem_iff_getElem?.mp hp
  unfold L0 at hi
  rw [List.getElem?_zipIdx, Option.map_eq_some_iff] at hi
  obtain ⟨a, ha, rfl⟩ := hi
  exact List.eq_of_mem_replicate (List.mem_of_getElem? ha)
theorem l0_cons : ∃ L', L0 = (ONEL, 0) :: L' ∧ L'.length = 399 := by
  unfold L0
  rw [show (400 : Nat) = 399 + 1 from rfl, List.replicate_succ, List.zipIdx_cons]
  exact ⟨_, rfl, by rw [List.length_zipIdx, List.length_replicate]⟩
theorem z0_zero : ∀ p ∈ Z0, p.1 = ZEROL := fun p hp => by
  unfold Z0 at hp
  obtain ⟨q, _, rfl⟩ := List.mem_map.mp hp
  rfl
theorem z0_ne : (Z0.map itD).isEmpty = false := by
  obtain ⟨L', e, hl⟩ := l0_cons
  unfold Z0
  rw [e, List.eraseIdx_zero, List.tail_cons]
  cases L' with
  | nil => cases hl
  | cons x xs => rfl
section
variable {P : Program} {w : World} {K : PySem.W.Frag} {mg : Str → Option Value} {base : Heap}

theorem ok_sum_of (T : Txt K mg) : FnOk P w K mg base CX0 1 T.a_sum_of T.d_sum_of ["one", "other"] (SpD K (gSum)) := by
  refine T.F_sum_of.ok sc_sum_of (spd_len (k := 2) fun ss S r S' hg => ?_) (fun cdv A outer s H vs Q E hr h => ⟨_, (pss_one (ps_ret (pe_callTy (call_tupK K rfl) (by rfl) T.n_tuple (by decide +kernel) (pa_cons (pe_lc (own := [("x", 2), ("y", 3)]) (g := gTup K 2 (gCons (gName 2) (gCons (gName 3) gNil))) rfl sc_sum_of.nd (pi_zipGK K (by rfl) T.n_zip (pa_cons (pv 0) (pa_cons (pv 1) pa_nil))) (blkOk_by (own := [("x", 2), ("y", 3)]) (N := ["one", "other", "x", "y"]) (sc := (defScope s_sum_of)) (by decide +kernel)) (fun _ _ _ _ _ => (pg_tup rfl (pgs_cons (pg_name (i := 2) sc_sum_of.nd rfl (by first | exact Or.inl rfl | exact Or.inr rfl)) (pgs_cons (pg_name (i := 3) sc_sum_of.nd rfl (by first | exact Or.inl rfl | exact Or.inr rfl)) pgs_nil)))) (fun _ _ _ _ _ => pts_nil) (fun _ _ _ _ _ => (pe_op op_add (pv 2) (pv 3)))) pa_nil)))), sp_body h fun ss S r S' hg => ?_⟩)
  · obtain ⟨u, v, rfl, _⟩ := hg; rfl
  · obtain ⟨u, v, rfl, hl, rfl, rfl⟩ := hg
    refine sp_ret (d := rowD (addR u v)) (ev_cb (ea_cons (EvN.ev (en_mapA (xs := u.zip v) (g := fun p => Dat.tup [.int p.1, .int p.2]) (is := [2, 3]) (fun p => Dat.int (p.1 + p.2)) (it_zipA (ea_cons (ev_var rfl) (ea_cons (ev_var rfl) ea_nil)) .tup .tup) (size_1000 (by rw [List.length_zip]; omega)) (fun _ _ => trivial) (by decide) (fun p env => (env.set 2 (some (.d (.int p.1)))).set 3 (some (.d (.int p.2)))) fun a ha => ⟨tg_pair, ev_op (ev_var rfl) (ev_var rfl) o_add⟩)) ea_nil) (cd_tup ?_)) ⟨rfl, List.take_length⟩
    unfold addR; rw [List.map_map]; exact .lst
theorem ok_times (T : Txt K mg) : FnOk P w K mg base CX0 1 T.a_times T.d_times ["row", "number"] (SpD K (gTimes)) := by
  refine T.F_times.ok sc_times (spd_len (k := 2) fun ss S r S' hg => ?_) (fun cdv A outer s H vs Q E hr h => ⟨_, (pss_one (ps_ret (pe_callTy (call_tupK K rfl) (by rfl) T.n_tuple (by decide +kernel) (pa_cons (pe_lc (own := [("x", 2)]) rfl sc_times.nd (pi_seqK K (pv 0)) (blkOk_by (own := [("x", 2)]) (N := ["row", "number", "x"]) (sc := (defScope s_times)) (by decide +kernel)) (fun _ _ _ _ _ => (pg_name (i := 2) sc_times.nd rfl (by first | exact Or.inl rfl | exact Or.inr rfl))) (fun _ _ _ _ _ => pts_nil) (fun _ _ _ _ _ => (pe_op op_mulW (pv 1) (pv 2)))) pa_nil)))), sp_body h fun ss S r S' hg => ?_⟩)
  · obtain ⟨u, c, rfl, _⟩ := hg; rfl
  · obtain ⟨u, c, rfl, hl, hc, rfl, rfl⟩ := hg
    refine sp_ret (d := rowD (u.map fun x => c * x)) (ev_cb (ea_cons (EvN.ev (en_mapA (xs := u) (g := Dat.int) (is := [2]) (fun x => Dat.int (c * x)) (it_tup (ev_var rfl)) (size_1000 hl) (fun _ _ => trivial) (by decide) (fun x env => env.set 2 (some (.d (.int x)))) fun x hx => ⟨tg_name, ev_op (ev_var rfl) (ev_var rfl) (o_mulW (hc x hx))⟩)) ea_nil) (cd_tup ?_)) ⟨rfl, List.take_length⟩
    rw [List.map_map]; exact .lst
theorem ok_content_of (T : Txt K mg) : FnOk P w K mg base CX0 1 T.a_content_of T.d_content_of ["row"] (SpD K (gCont)) := by
  refine T.F_content_of.ok sc_content_of (spd_len (k := 1) fun ss S r S' hg => ?_) (fun cdv A outer s H vs Q E hr h => ⟨_, (pss_cons (ps_set (i := 1) sc_content_of.nd rfl (by first | exact Or.inl rfl | exact Or.inr rfl) pe_int) (pss_cons (ps_for PassesOwn.never rfl (pi_seqK K (pv 0)) (pg_name (i := 2) sc_content_of.nd rfl (by first | exact Or.inl rfl | exact Or.inr rfl)) (pss_cons (ps_set (i := 1) sc_content_of.nd rfl (by first | exact Or.inl rfl | exact Or.inr rfl) (pe_callBfun cr_gcd rfl T.m_gcd (pa_cons (pv 1) (pa_cons (pv 2) pa_nil)))) (pss_one (ps_if (pt_cmpR op_eq (pv 1) pe_int (nomark _)) (pss_one (ps_ret pe_int)) pss_nil)))) (pss_one (ps_ret (pv 1))))), sp_body h fun ss S r S' hg => ?_⟩)
  · obtain ⟨n, rfl, _⟩ := hg; rfl
  · obtain ⟨n, rfl, rfl, rfl⟩ := hg
    refine sp_set ev_int ?_
    refine sp_seq (P' := { nx := fun env' S2 => S2 = S' ∧ ∃ o, env' = [some (.d (rowD (List.replicate n 0))), some (.d (.int 0)), o] })
      (sp_forA (xs := List.replicate n 0) (g := Dat.int) (it_tup (ev_var rfl)) (fun i env' S2 => S2 = S' ∧ ∃ o, env' = [some (.d (rowD (List.replicate n 0))), some (.d (.int 0)), o]) ⟨rfl, none, rfl⟩ (fun _ _ _ _ _ _ _ _ _ => trivial) ?_ ?_) ?_
    · rintro i x env' S2 hx ⟨rfl, o, rfl⟩
      have ex := List.eq_of_mem_replicate (List.mem_of_getElem? hx)
      subst ex
      refine ⟨[2], fun env => env.set 2 (some (.d (.int 0))), tg_name, ?_⟩
      refine sp_set (x := .d (.int 0)) (S1 := S2) (Ev.to (ev_cb (ea_cons (ev_var rfl) (ea_cons (ev_var rfl) ea_nil)) cd_gcd) rfl) ?_
      exact sp_if (b := false) (S1 := S2) (et_test (Ev.to (ev_op (ev_var rfl) ev_int op2_eq_int) rfl)) (fun h => by cases h) fun _ => sp_next ⟨rfl, _, rfl⟩
    · rintro env' S2 ⟨rfl, o, rfl⟩
      exact ⟨rfl, o, rfl⟩
    · rintro env' S2 ⟨rfl, o, rfl⟩
      exact sp_ret (ev_var rfl) ⟨rfl, List.take_length⟩
theorem ok_stepped (T : Txt K mg) : FnOk P w K mg base CX0 1 T.a_stepped T.d_stepped ["row", "head", "column", "last"] (SpD K (gStep)) := by
  refine T.F_stepped.ok sc_stepped (spd_len (k := 4) fun ss S r S' hg => ?_) (fun cdv A outer s H vs Q E hr h => ⟨_, (pss_cons (ps_asg (pe_tup (pa_cons (pe_ix (ix_seqK K) (pv 1) (pv 2) (fun _ _ => rfl)) (pa_cons (pe_ix (ix_seqK K) (pv 0) (pv 2) (fun _ _ => rfl)) pa_nil))) (pg_tup rfl (pgs_cons (pg_name (i := 4) sc_stepped.nd rfl (by first | exact Or.inl rfl | exact Or.inr rfl)) (pgs_cons (pg_name (i := 5) sc_stepped.nd rfl (by first | exact Or.inl rfl | exact Or.inr rfl)) pgs_nil)))) (pss_one (ps_ret (pe_lc (own := [("x", 6), ("y", 7)]) (g := gTup K 2 (gCons (gName 6) (gCons (gName 7) gNil))) rfl sc_stepped.nd (pi_zipGK K (by rfl) T.n_zip (pa_cons (pv 0) (pa_cons (pv 1) pa_nil))) (blkOk_by (own := [("x", 6), ("y", 7)]) (N := ["row", "head", "column", "last", "lead", "own", "x", "y"]) (sc := (defScope s_stepped)) (by decide +kernel)) (fun _ _ _ _ _ => (pg_tup rfl (pgs_cons (pg_name (i := 6) sc_stepped.nd rfl (by first | exact Or.inl rfl | exact Or.inr rfl)) (pgs_cons (pg_name (i := 7) sc_stepped.nd rfl (by first | exact Or.inl rfl | exact Or.inr rfl)) pgs_nil)))) (fun _ _ _ _ _ => pts_nil) (fun _ _ _ _ _ => (pe_op op_fdivW (pe_op op_sub (pe_op op_mul (pv 4) (pv 6)) (pe_op op_mul (pv 5) (pv 7))) (pv 3))))))), sp_body h fun ss S r S' hg => ?_⟩)
  · obtain ⟨rfl, _⟩ := hg; rfl
  · obtain ⟨rfl, rfl, rfl⟩ := hg
    refine sp_asg (S1 := S') (d := .tup [.int 1, .int 1]) (ev_tup (ds := [.int 1, .int 1]) (ea_cons (ev_op (ev_var rfl) (ev_var rfl) (op2_ix (d := .int 1) .lst rfl)) (ea_cons (ev_op (ev_var rfl) (ev_var rfl) (op2_ix (d := .int 1) .lst rfl)) ea_nil)) (by show 2 ≤ sizeLine; decide)) tg_pair ?_
    refine sp_ret (EvN.ev (EvN.toD (en_mapA (xs := ONEL.zip ONEL) (g := fun p => Dat.tup [.int p.1, .int p.2]) (is := [6, 7]) (fun p => Dat.int 0) (it_zipA (ea_cons (ev_var rfl) (ea_cons (ev_var rfl) ea_nil)) .lst .lst) (by decide) (fun _ _ => trivial) (by decide) (fun p env => (env.set 6 (some (.d (.int p.1)))).set 7 (some (.d (.int p.2)))) fun p hp => ⟨tg_pair, ?_⟩) rfl)) ⟨rfl, List.take_length⟩
    have h1 : p.1 = 1 := List.eq_of_mem_replicate (List.of_mem_zip hp).1
    have h2 : p.2 = 1 := List.eq_of_mem_replicate (List.of_mem_zip hp).2
    rw [h1, h2]
    exact Ev.to (ev_op (ev_op (ev_op (ev_var rfl) (ev_var rfl) (o_mul (.inl ⟨by decide, by decide⟩))) (ev_op (ev_var rfl) (ev_var rfl) (o_mul (.inl ⟨by decide, by decide⟩))) o_sub) (ev_var rfl) (o_fdivW ⟨by decide, by decide⟩)) rfl
theorem ok_first_with (T : Txt K mg) : FnOk P w K mg base CX0 1 T.a_first_with T.d_first_with ["left", "column"] (SpD K (gFw)) := by
  refine T.F_first_with.ok sc_first_with (spd_len (k := 2) fun ss S r S' hg => ?_) (fun cdv A outer s H vs Q E hr h => ⟨_, (pss_cons (ps_for PassesOwn.never rfl (pi_enumG (by rfl) T.n_enumerate (pa_cons (pv 0) pa_nil)) (pg_tup rfl (pgs_cons (pg_name (i := 2) sc_first_with.nd rfl (by first | exact Or.inl rfl | exact Or.inr rfl)) (pgs_cons (pg_tup rfl (pgs_cons (pg_name (i := 3) sc_first_with.nd rfl (by first | exact Or.inl rfl | exact Or.inr rfl)) (pgs_cons (pg_name (i := 4) sc_first_with.nd rfl (by first | exact Or.inl rfl | exact Or.inr rfl)) pgs_nil))) pgs_nil))) (pss_one (ps_if (pt_cmpR op_ne (pe_ix (ix_seqK K) (pv 4) (pv 1) (fun _ _ => rfl)) pe_int (nomark _)) (pss_one (ps_ret (pv 2))) pss_nil))) (pss_one (ps_ret pe_non))), sp_body h fun ss S r S' hg => ?_⟩)
  · obtain ⟨k, L, col, rfl, _⟩ := hg; rfl
  · obtain ⟨k, L, col, rfl, hk, hc, hr, rfl⟩ := hg
    have hkl : k < S'.length := (List.getElem?_eq_some_iff.mp hk).1
    have hit := it_enum (K := K) (env := [some (.c k), some (.d (.int (col : Nat))), none, none, none]) (S := S') (ea_cons (ev_var (i := 0) rfl) ea_nil) (.cell hk)
    have e := enum_map (fun d : Dat => d) (L.map itD)
    rw [List.map_id'] at e
    rw [e] at hit
    refine sp_seq (P' := { nx := fun env' S2 => S2 = S' ∧ r = .non ∧ ∃ o1 o2 o3, env' = [some (.c k), some (.d (.int (col : Nat))), o1, o2, o3] })
      (sp_forA (xs := (L.map itD).zipIdx) (g := fun p => Dat.tup [.int (p.2 : Nat), p.1]) hit (fun i env' S2 => S2 = S' ∧ (i = 0 ∨ r = .non) ∧ ∃ o1 o2 o3, env' = [some (.c k), some (.d (.int (col : Nat))), o1, o2, o3]) ⟨rfl, .inl rfl, none, none, none, rfl⟩ ?_ ?_ ?_) ?_
    · rintro i env' S2 as as2 ⟨rfl, _⟩ l1 l2 ht
      refine ⟨?_, .inl hk⟩
      have h1 := congrArg (fun l => l[k]?) ht
      simp only [List.getElem?_take_of_lt hkl] at h1
      exact h1
    · rintro i p env' S2 hp ⟨rfl, hi, o1, o2, o3, rfl⟩
      obtain ⟨d, j⟩ := p
      rw [List.getElem?_zipIdx, Option.map_eq_some_iff] at hp
      obtain ⟨d', hd, e⟩ := hp
      cases e
      rw [List.getElem?_map, Option.map_eq_some_iff] at hd
      obtain ⟨q, hq, rfl⟩ := hd
      have hqm := List.mem_of_getElem? hq
      refine ⟨[2, 3, 4], fun env => ((env.set 2 (some (.d (.int ((0 + i : Nat) : Int))))).set 3 (some (.d (.int (q.2 : Nat))))).set 4 (some (.d (.lst (q.1.map Dat.int)))), tg_nest, ?_⟩
      have hcl := hc q hqm
      have hat : atI (q.1.map Dat.int) ((col : Nat) : Int) = some (.int q.1[col]) := by
        have := atI_n (xs := q.1.map Dat.int) (p := col) (by rw [List.length_map]; exact hcl)
        rw [this, List.getElem_map]
      refine sp_if (S1 := S2) (b := !decide (q.1[col] = 0)) (et_test (ev_op (ev_op (ev_var rfl) (ev_var rfl) (op2_ix .lst hat)) ev_int op2_ne_int)) (fun h => ?_) fun h => ?_
      · have hne : ¬ q.1[col] = 0 := by simpa using h
        rcases hr with ⟨p, L', rfl, h0, rfl⟩ | ⟨hz, _⟩
        · rcases hi with rfl | hi
          · exact sp_ret (ev_var rfl) ⟨rfl, List.take_length⟩
          · cases hi
        · have := hz q hqm
          rw [List.getElem?_eq_getElem hcl] at this
          exact absurd (Option.some.inj this) hne
      · have he : q.1[col] = 0 := by simpa using h
        refine sp_next ⟨rfl, .inr ?_, _, _, _, rfl⟩
        rcases hr with ⟨p, L', rfl, h0, rfl⟩ | ⟨_, hr⟩
        · rcases hi with rfl | hi
          · cases hq
            rw [List.getElem?_eq_getElem hcl, he] at h0
            exact absurd rfl h0
          · exact hi
        · exact hr
    · rintro env' S2 ⟨rfl, hi, o1, o2, o3, rfl⟩
      refine ⟨rfl, ?_, o1, o2, o3, rfl⟩
      rcases hi with h | h
      · rcases hr with ⟨p, L', rfl, h0, rfl⟩ | ⟨_, hr⟩
        · simp at h
        · exact hr
      · exact h
    · rintro env' S2 ⟨rfl, rfl, o1, o2, o3, rfl⟩
      exact sp_ret ev_non ⟨rfl, List.take_length⟩
end
end N03

set_option Elab.async false
set_option linter.all false
set_option maxRecDepth 100000
set_option maxHeartbeats 4000000
namespace N03
open PySem PySem.Spec PyProof.Rows L2 RW

section
variable {A G : List Dat} {x y z w : Dat}
theorem c0_get : (A ++ [x, y, z] ++ G)[A.length]? = some x := by simp
theorem c1_get : (A ++ [x, y, z] ++ G)[A.length + 1]? = some y := by
  rw [List.append_assoc, List.getElem?_append_right (by omega), show A.length + 1 - A.length = 1 by omega]; rfl
theorem c2_get : (A ++ [x, y, z] ++ G)[A.length + 2]? = some z := by
  rw [List.append_assoc, List.getElem?_append_right (by omega), show A.length + 2 - A.length = 2 by omega]; rfl
theorem c3_get : (A ++ [x, y, z] ++ [w])[A.length + 3]? = some w := by
  rw [List.getElem?_append_right (by simp), List.length_append, List.length_cons, List.length_cons, List.length_cons, List.length_nil, Nat.sub_self]; rfl
theorem c0_set : (A ++ [x, y, z] ++ G).set A.length w = A ++ [w, y, z] ++ G := by simp [List.append_assoc]
theorem c1_set : (A ++ [x, y, z] ++ G).set (A.length + 1) w = A ++ [x, w, z] ++ G := by
  rw [List.append_assoc, List.set_append_right _ _ (by omega), show A.length + 1 - A.length = 1 by omega]
  simp [List.append_assoc]
theorem c2_set : (A ++ [x, y, z] ++ G).set (A.length + 2) w = A ++ [x, y, w] ++ G := by
  rw [List.append_assoc, List.set_append_right _ _ (by omega), show A.length + 2 - A.length = 2 by omega]
  simp [List.append_assoc]
theorem c_len : (A ++ [x, y, z]).length = A.length + 3 := by simp
end
theorem erase_map {α β : Type} (f : α → β) (xs : List α) : (xs.map f).eraseIdx 0 = (xs.eraseIdx 0).map f := by cases xs <;> rfl
section
variable {P : Program} {w : World} {K : PySem.W.Frag} {mg : Str → Option Value} {base : Heap}

theorem ok_eliminated (T : Txt K mg) : FnOk P w K mg base CX0 2 T.a_eliminated T.d_eliminated ["rows"] (SpD K (gElim)) := by
  have G_first_with := ok_first_with (P := P) (w := w) (base := base) T
  have b_first_with := T.b_first_with
  have G_stepped := ok_stepped (P := P) (w := w) (base := base) T
  have b_stepped := T.b_stepped
  refine T.F_eliminated.ok sc_eliminated (spd_len (k := 1) fun ss S r S' hg => ?_) (fun cdv A outer s H vs Q E hr h => ⟨_, (pss_cons (ps_setLc (own := [("index", 2), ("row", 3)]) (g := gTup K 2 (gCons (gName 2) (gCons (gName 3) gNil))) (i := 1) rfl sc_eliminated.nd rfl rfl (sw_true rfl rfl rfl (by decide +kernel)) (pi_enumG (by rfl) T.n_enumerate (pa_cons (pv 0) pa_nil)) (blkOk_by (own := [("index", 2), ("row", 3)]) (N := ["rows", "left", "index", "row", "chosen", "columns", "sign", "last", "column", "at", "head", "k"]) (sc := (defScope s_eliminated)) (by decide +kernel)) (fun _ _ _ _ _ => (pg_tup rfl (pgs_cons (pg_name (i := 2) sc_eliminated.nd rfl (by first | exact Or.inl rfl | exact Or.inr rfl)) (pgs_cons (pg_name (i := 3) sc_eliminated.nd rfl (by first | exact Or.inl rfl | exact Or.inr rfl)) pgs_nil)))) (fun _ _ _ _ _ => pts_nil) (fun _ _ _ _ _ => (pe_tup (pa_cons (pv 2) (pa_cons (pe_callTy (call_lstK K rfl) (by rfl) T.n_list (by decide +kernel) (pa_cons (pv 3) pa_nil)) pa_nil))))) (pss_cons (ps_asg (pe_tup (pa_cons (pe_lst pa_nil) (pa_cons (pe_lst pa_nil) (pa_cons pe_int (pa_cons pe_int pa_nil))))) (pg_tup rfl (pgs_cons (pg_name (i := 4) sc_eliminated.nd rfl (by first | exact Or.inl rfl | exact Or.inr rfl)) (pgs_cons (pg_name (i := 5) sc_eliminated.nd rfl (by first | exact Or.inl rfl | exact Or.inr rfl)) (pgs_cons (pg_name (i := 6) sc_eliminated.nd rfl (by first | exact Or.inl rfl | exact Or.inr rfl)) (pgs_cons (pg_name (i := 7) sc_eliminated.nd rfl (by first | exact Or.inl rfl | exact Or.inr rfl)) pgs_nil)))))) (pss_cons (ps_for PassesOwn.never rfl (pi_range1 (by rfl) T.n_range (pa_cons (pe_callB (call_lenK K) (by rfl) T.n_len (by decide +kernel) (pa_cons (pe_ix (ix_seqK K) (pv 0) pe_int (fun _ _ => rfl)) pa_nil)) pa_nil)) (pg_name (i := 8) sc_eliminated.nd rfl (by first | exact Or.inl rfl | exact Or.inr rfl)) (pss_cons (ps_set (i := 9) sc_eliminated.nd rfl (by first | exact Or.inl rfl | exact Or.inr rfl) (pe_call G_first_with (hr.mono (by decide)) rfl T.m_first_with T.k_first_with b_first_with .nil pass0 (pa_cons (pv 1) (pa_cons (pv 8) pa_nil)))) (pss_cons (ps_if (pt_cmpR op_isN (pv 9) pe_non (nomark _)) (pss_one ps_continue) pss_nil) (pss_cons (ps_asg (pe_ix (ix_seqK K) (pv 1) (pv 9) (fun _ _ => rfl)) (pg_tup rfl (pgs_cons (pg_name (i := 2) sc_eliminated.nd rfl (by first | exact Or.inl rfl | exact Or.inr rfl)) (pgs_cons (pg_name (i := 10) sc_eliminated.nd rfl (by first | exact Or.inl rfl | exact Or.inr rfl)) pgs_nil)))) (pss_cons (ps_if (pt_cmpR op_eq (pe_op op_mod (pv 9) pe_int) pe_int (nomark _)) (pss_one (ps_set (i := 6) sc_eliminated.nd rfl (by first | exact Or.inl rfl | exact Or.inr rfl) (pe_un un_neg (pv 6)))) pss_nil) (pss_cons (ps_delL (pv 1) (pv 9)) (pss_cons (ps_setLc (own := [("k", 11), ("row", 3)]) (g := gTup K 2 (gCons (gName 11) (gCons (gName 3) gNil))) (i := 1) rfl sc_eliminated.nd rfl rfl (sw_true rfl rfl rfl (by decide +kernel)) (pi_seqK K (pv 1)) (blkOk_by (own := [("k", 11), ("row", 3)]) (N := ["rows", "left", "index", "row", "chosen", "columns", "sign", "last", "column", "at", "head", "k"]) (sc := (defScope s_eliminated)) (by decide +kernel)) (fun _ _ _ _ _ => (pg_tup rfl (pgs_cons (pg_name (i := 11) sc_eliminated.nd rfl (by first | exact Or.inl rfl | exact Or.inr rfl)) (pgs_cons (pg_name (i := 3) sc_eliminated.nd rfl (by first | exact Or.inl rfl | exact Or.inr rfl)) pgs_nil)))) (fun _ _ _ _ _ => pts_nil) (fun _ _ _ _ _ => (pe_tup (pa_cons (pv 11) (pa_cons (pe_call G_stepped (hr.mono (by decide)) rfl T.m_stepped T.k_stepped b_stepped .nil pass0 (pa_cons (pv 3) (pa_cons (pv 10) (pa_cons (pv 8) (pa_cons (pv 7) pa_nil))))) pa_nil))))) (pss_cons (ps_set (i := 7) sc_eliminated.nd rfl (by first | exact Or.inl rfl | exact Or.inr rfl) (pe_ix (ix_seqK K) (pv 10) (pv 8) (fun _ _ => rfl))) (pss_cons (ps_expr (pe_bm PySem.F.plainAttrs_list PySem.F.slot_list_append PySem.F.type_list_append mt_append (pv 4) (pa_cons (pv 2) pa_nil))) (pss_cons (ps_expr (pe_bm PySem.F.plainAttrs_list PySem.F.slot_list_append PySem.F.type_list_append mt_append (pv 5) (pa_cons (pv 8) pa_nil))) (pss_one (ps_if (pt_not (pt_truK K (pv 1))) (pss_one ps_break) pss_nil)))))))))))) (pss_one (ps_ret (pe_tup (pa_cons (pv 4) (pa_cons (pv 5) (pa_cons (pe_op op_mul (pv 6) (pv 7)) pa_nil))))))))), sp_body h fun ss S r S' hg => ?_⟩)
  · obtain ⟨rfl, _⟩ := hg; rfl
  · obtain ⟨rfl, rfl, rfl⟩ := hg
    have hlen0 := l0_len
    refine sp_setC (S1 := S') (ds := L0.map itD) (en_mapA (xs := L0) (g := fun p => Dat.tup [.int (p.2 : Nat), rowD p.1]) (is := [2, 3]) itD (it_enumA (u := List.replicate 400 ONEL) (f := fun r => rowD r) (ea_cons (ev_var rfl) ea_nil) .tup) (size_1000 (by rw [hlen0]; decide)) (fun _ _ => trivial) (by decide) (fun p env => (env.set 2 (some (.d (.int (p.2 : Nat))))).set 3 (some (.d (rowD p.1)))) fun p hp => ⟨tg_pair, ev_tup (ds := [.int (p.2 : Nat), .lst (p.1.map Dat.int)]) (ea_cons (ev_var rfl) (ea_cons (EvN.ev (en_list (ea_cons (ev_var rfl) ea_nil) .tup)) ea_nil)) (by show 2 ≤ sizeLine; decide)⟩) ?_
    refine sp_quadCC (ds := []) (es := []) (x := .d (.int 1)) (y := .d (.int 1)) (en_lst ea_nil (Nat.zero_le _)) (en_lst ea_nil (Nat.zero_le _)) ev_int ev_int ?_
    have el : (S' ++ [Dat.lst (L0.map itD)]).length = S'.length + 1 := by simp
    rw [el]
    have eS : S' ++ [Dat.lst (L0.map itD)] ++ [Dat.lst []] ++ [Dat.lst []] = S' ++ [.lst (L0.map itD), .lst [], .lst []] ++ [] := by simp
    rw [eS]
    refine sp_seq (P' := { nx := fun env' S2 => ∃ x G o1 o2 o3 o4 o5 o6 o7, S2 = S' ++ [x, .lst [.int 0], .lst [.int 0]] ++ G ∧ env' = [some (.d ONES), o1, o2, o3, some (.c (S'.length + 1)), some (.c (S'.length + 2)), some (.d (.int 1)), some (.d (.int 1)), o4, o5, o6, o7] })
      (sp_forA (xs := List.range 16) (g := fun i => Dat.int (0 + (i : Nat))) (it_rangeN (m := 16) (ea_cons (Ev.to (ev_cb (ea_cons (ev_op (d := rowD ONEL) (ev_var rfl) ev_int (op2_ix .tup rfl)) ea_nil) (cd_len .tup)) rfl) ea_nil) (by omega)) (fun i env' S2 => (i = 0 ∧ S2 = S' ++ [.lst (L0.map itD), .lst [], .lst []] ++ [] ∧ ∃ o2 o3 o4 o5 o6 o7, env' = [some (.d ONES), some (.c S'.length), o2, o3, some (.c (S'.length + 1)), some (.c (S'.length + 2)), some (.d (.int 1)), some (.d (.int 1)), o4, o5, o6, o7]) ∨
        (1 ≤ i ∧ (∃ x, S2 = S' ++ [x, .lst [.int 0], .lst [.int 0]] ++ [.lst (Z0.map itD)]) ∧ ∃ o2 o3 o4 o5 o6 o7, env' = [some (.d ONES), some (.c (S'.length + 3)), o2, o3, some (.c (S'.length + 1)), some (.c (S'.length + 2)), some (.d (.int 1)), some (.d (.int 1)), o4, o5, o6, o7])) (.inl ⟨rfl, rfl, _, _, _, _, _, _, rfl⟩) (fun _ _ _ _ _ _ _ _ _ => trivial) ?_ ?_) ?_
    · rintro i a env' S2 ha h
      have hia : i < 16 ∧ a = i := by
        obtain ⟨h1, h2⟩ := List.getElem?_eq_some_iff.mp ha
        rw [List.length_range] at h1
        rw [List.getElem_range] at h2
        exact ⟨h1, h2.symm⟩
      obtain ⟨hi, rfl⟩ := hia
      refine ⟨[8], fun env => env.set 8 (some (.d (.int (0 + (a : Nat))))), tg_name, ?_⟩
      rw [Int.zero_add]
      rcases h with ⟨rfl, rfl, o2, o3, o4, o5, o6, o7, rfl⟩ | ⟨hi1, ⟨x, rfl⟩, o2, o3, o4, o5, o6, o7, rfl⟩
      · obtain ⟨L', eL, hL'⟩ := l0_cons
        refine sp_set (x := .d (.int 0)) (S1 := S' ++ [.lst (L0.map itD), .lst [], .lst []] ++ []) (ev_call (ea_cons (ev_var rfl) (ea_cons (ev_var rfl) ea_nil)) ⟨S'.length, L0, 0, rfl, c0_get, fun p hp => by rw [l0_one p hp]; decide, .inl ⟨_, L', eL, by decide, rfl⟩, rfl⟩) ?_
        refine sp_ifq (b := false) (et_test (ev_op (ev_var rfl) ev_non o_isNI)) (fun h => by cases h) fun _ => sp_nextq ?_
        refine sp_asg (S1 := S' ++ [.lst (L0.map itD), .lst [], .lst []] ++ []) (d := .tup [.int 0, .lst (ONEL.map Dat.int)]) (ev_op (ev_var rfl) (ev_var rfl) (op2_ix (.cell c0_get) (by rw [eL]; exact at0))) tg_pair ?_
        refine sp_ifq (b := false) (S1 := S' ++ [.lst (L0.map itD), .lst [], .lst []] ++ []) (et_test (Ev.to (ev_op (ev_op (ev_var rfl) ev_int (o_mod (by decide))) ev_int op2_eq_int) rfl)) (fun h => by cases h) fun _ => sp_nextq ?_
        refine sp_delL (i := 0) (j := 0) (ev_var rfl) (ev_var rfl) c0_get (by decide) (by rw [List.length_map, hlen0]; rfl) ?_
        rw [c0_set, erase_map]
        refine sp_setC (S1 := S' ++ [.lst ((L0.eraseIdx 0).map itD), .lst [], .lst []] ++ []) (ds := Z0.map itD) (EvN.toD (en_mapA (xs := L0.eraseIdx 0) (g := itD) (is := [11, 3]) (fun p => itD (ZEROL, p.2)) (it_cell (ev_var rfl) c0_get) (size_1000 (by rw [eL, List.eraseIdx_zero, List.tail_cons, hL']; decide)) (fun as h => ⟨rfl, c0_get⟩) (by decide) (fun p env => (env.set 11 (some (.d (.int (p.2 : Nat))))).set 3 (some (.d (.lst (p.1.map Dat.int))))) fun p hp => ⟨tg_pair, ?_⟩) (by unfold Z0; rw [List.map_map]; rfl)) ?_
        · have e1 := l0_one p (List.mem_of_mem_eraseIdx hp)
          rw [e1]
          exact ev_tup (ds := [.int (p.2 : Nat), .lst (ZEROL.map Dat.int)]) (ea_cons (ev_var rfl) (ea_cons (ev_call (ea_cons (ev_var rfl) (ea_cons (ev_var rfl) (ea_cons (ev_var rfl) (ea_cons (ev_var rfl) ea_nil)))) ⟨rfl, rfl, rfl⟩) ea_nil)) (by show 2 ≤ sizeLine; decide)
        rw [List.append_nil, c_len]
        refine sp_set (x := .d (.int 1)) (S1 := S' ++ [.lst ((L0.eraseIdx 0).map itD), .lst [], .lst []] ++ [.lst (Z0.map itD)]) (ev_op (ev_var rfl) (ev_var rfl) (op2_ix .lst rfl)) ?_
        refine sp_drop (Ev.toS (ev_append (d := .int 0) (ev_var rfl) (ev_var rfl) ⟨_, c1_get⟩ c1_get (by decide)) c1_set) ?_
        refine sp_drop (Ev.toS (ev_append (d := .int 0) (ev_var rfl) (ev_var rfl) ⟨_, c2_get⟩ c2_get (by decide)) c2_set) ?_
        exact sp_if (b := false) (S1 := S' ++ [.lst ((L0.eraseIdx 0).map itD), .lst [.int 0], .lst [.int 0]] ++ [.lst (Z0.map itD)]) (et_not (a := true) (EvT.to (et_seq (ev_var rfl) (.cell c3_get)) (by rw [z0_ne]; rfl))) (fun h => by cases h) fun _ => sp_next (.inr ⟨by omega, ⟨_, rfl⟩, _, _, _, _, _, _, rfl⟩)
      · refine sp_set (x := .d .non) (S1 := S' ++ [x, .lst [.int 0], .lst [.int 0]] ++ [.lst (Z0.map itD)]) (ev_call (ea_cons (ev_var rfl) (ea_cons (ev_var rfl) ea_nil)) ⟨S'.length + 3, Z0, a, rfl, c3_get, fun p hp => by rw [z0_zero p hp]; show a < ZEROL.length; exact hi, .inr ⟨fun p hp => by rw [z0_zero p hp]; unfold ZEROL; rw [List.getElem?_replicate, if_pos hi], rfl⟩, rfl⟩) ?_
        exact sp_ifq (b := true) (et_test (ev_op (ev_var rfl) ev_non o_isNN)) (fun _ => sp_contq (.inr ⟨by omega, ⟨x, rfl⟩, _, _, _, _, _, _, rfl⟩)) fun h => by cases h
    · rintro env' S2 h
      rcases h with ⟨h, _⟩ | ⟨_, ⟨x, rfl⟩, o2, o3, o4, o5, o6, o7, rfl⟩
      · cases h
      · exact ⟨x, _, _, o2, o3, o4, o5, o6, o7, rfl, rfl⟩
    · rintro env' S2 ⟨x, G, o1, o2, o3, o4, o5, o6, o7, rfl, rfl⟩
      exact sp_retCC (k1 := S'.length + 1) (k2 := S'.length + 2) (d := .int 1) rfl rfl (Ev.to (ev_op (ev_var rfl) (ev_var rfl) (o_mul (.inl ⟨by decide, by decide⟩))) rfl) c1_get c2_get (by omega) (by omega) (by omega) ⟨rfl, by rw [List.append_assoc, List.take_left]⟩
end
end N03

set_option Elab.async false
set_option linter.all false
set_option maxRecDepth 100000
set_option maxHeartbeats 4000000
namespace N03
open PySem PySem.Spec PyProof.Rows L2 RW

def ifX (b : Bool) (C : Addr) (o : Out) : Out := if b = true then o else .exc C none
theorem sr_tup {v : Dat} {a b : Int} (h : srB v a b = true) : ∃ u, v = .tup u := by
  cases v <;> first | exact ⟨_, rfl⟩ | (simp [srB] at h)
section
variable {K : PySem.W.Frag} {n : Nat} {te : TE} {tA : TA} {env : Env1} {S S1 : List Dat} {P : Post} {u : TS} {E : XK} {G : List Sl → List Dat → Out → List Dat → Prop} {ss : List Sl} {o : Out}
/-- a call for its refusal: it goes on, or an exception is let out -/
theorem sp_need (h : EvA K tA env S ss S) (hg : G ss S o S) (q : ∀ r, o = .val r → SP K n u env S P) (hx : ∀ C p, o = .exc C p → P.ok = XOk K E (.exc C p) (S.take n)) : SP K n (tSeq (tDrop (tCall (SpR K G) [] E tA)) u) env S P := by
  cases o with
  | val r => exact sp_drop (ev_callR h hg) (q r rfl)
  | exc C p => exact sp_dropXq (ev_callX h hg) (hx C p rfl)
theorem sp_need1 (h : EvA K tA env S ss S) (hg : G ss S o S) (q : ∀ r, o = .val r → P.nx env S) (hx : ∀ C p, o = .exc C p → P.ok = XOk K E (.exc C p) (S.take n)) : SP K n (tDrop (tCall (SpR K G) [] E tA)) env S P := by
  cases o with
  | val r => exact sp_drop1 (ev_callR h hg) (q r rfl)
  | exc C p => exact sp_dropX (ev_callX h hg) (hx C p rfl)
end
theorem ifX_val {b : Bool} {C : Addr} {o : Out} {r : Dat} (h : ifX b C o = .val r) : b = true ∧ o = .val r := by
  unfold ifX at h
  split at h
  · next hb => exact ⟨hb, h⟩
  · cases h
theorem ifX_exc {b : Bool} {C D : Addr} {o : Out} {p : Option (Str × Dat)} (h : ifX b C o = .exc D p) : (b = false ∧ D = C ∧ p = none) ∨ (b = true ∧ o = .exc D p) := by
  unfold ifX at h
  split at h
  · next hb => exact .inr ⟨hb, h⟩
  · next hb => cases h; exact .inl ⟨by simpa using hb, rfl, rfl⟩
theorem kd_part {v : Dat} {i : Nat} (h : KD v) : KD (partD v i) := by
  unfold partD
  have hd : ∀ {xs : List Dat}, (∀ d ∈ xs, KD d) → KD (xs.getD i .non) := fun {xs} hx => by
    rw [List.getD_eq_getElem?_getD]
    cases e : xs[i]? with
    | none => exact .non
    | some d => exact hx d (List.mem_of_getElem? e)
  cases h with
  | tup h l => exact hd h
  | _ => exact .non
theorem told_len {v : Dat} {w : Str} {k : Nat} (h : toldB v w k = true) : ∃ xs, v = .tup xs ∧ xs.length = k := by
  cases v with
  | tup xs =>
    cases xs with
    | nil => cases h
    | cons x xs =>
      refine ⟨_, rfl, ?_⟩
      unfold toldB at h
      rw [Bool.and_eq_true] at h
      exact of_decide_eq_true h.1
  | _ => cases h
theorem asr_first {v : Dat} {a b : Int} (h : asrB v a b = true) : ∃ r0 rs, v = .tup (.tup r0 :: rs) := by
  obtain ⟨n, rows, rfl, hne, _⟩ := asr_rows h
  cases rows with
  | nil => exact absurd rfl hne
  | cons r rs => exact ⟨_, _, rfl⟩
def lenR (rows : Dat) : Nat := lenD ((innD rows).getD 0 .non)
def outPR (CR CO : Addr) (a b : Dat) : Out := ifX (srB a 1 16) CR (ifX (srB b 1 16) CR (ifX (decide (lenD a = lenD b)) CO (.val .non)))
def outGL (CR CO : Addr) (rows goal : Dat) : Out := ifX (asrB rows 400 16) CR (ifX (srB goal 1 16) CR (ifX (decide (lenR rows = lenD goal)) CO (.val .non)))
def gB (f : Dat → Bool) (ss : List Sl) (S : List Dat) (r : Dat) (S' : List Dat) : Prop := ∃ v : Dat, ss = [.d v] ∧ KD v ∧ r = .bl (f v) ∧ S' = S
def gNd (f : Dat → Bool) (C : Addr) (ss : List Sl) (S : List Dat) (o : Out) (S' : List Dat) : Prop := ∃ v : Dat, ss = [.d v] ∧ KD v ∧ o = ifX (f v) C (.val .non) ∧ S' = S
def gNum (C : Addr) (ss : List Sl) (S : List Dat) (o : Out) (S' : List Dat) : Prop := ∃ (d : Dat), ss = [.d d] ∧ KD d ∧ o = (if shD d = true then .val .non else .exc C (some ("given", d))) ∧ S' = S
def gSame (C : Addr) (ss : List Sl) (S : List Dat) (o : Out) (S' : List Dat) : Prop := ∃ (u v : List Dat), ss = [.d (.tup u), .d (.tup v)] ∧ o = ifX (decide (u.length = v.length)) C (.val .non) ∧ S' = S
def gPR (CR CO : Addr) (ss : List Sl) (S : List Dat) (o : Out) (S' : List Dat) : Prop := ∃ (a b : Dat), ss = [.d a, .d b] ∧ KD a ∧ KD b ∧ o = outPR CR CO a b ∧ S' = S
def gGL (CR CO : Addr) (ss : List Sl) (S : List Dat) (o : Out) (S' : List Dat) : Prop := ∃ (a b : Dat), ss = [.d a, .d b] ∧ KD a ∧ KD b ∧ o = outGL CR CO a b ∧ S' = S
def gPRx (CR CO : Addr) (ss : List Sl) (S : List Dat) (o : Out) (S' : List Dat) : Prop := ∃ (a b : Dat) (C : Addr) (p : Option (Str × Dat)), ss = [.d a, .d b] ∧ KD a ∧ KD b ∧ outPR CR CO a b = .exc C p ∧ o = .exc C p ∧ S' = S
def gGLx (CR CO : Addr) (ss : List Sl) (S : List Dat) (o : Out) (S' : List Dat) : Prop := ∃ (a b : Dat) (C : Addr) (p : Option (Str × Dat)), ss = [.d a, .d b] ∧ KD a ∧ KD b ∧ outGL CR CO a b = .exc C p ∧ o = .exc C p ∧ S' = S
def gGL3 (CR CO : Addr) (ss : List Sl) (S : List Dat) (o : Out) (S' : List Dat) : Prop := ∃ (a b v : Dat) (C : Addr) (p : Option (Str × Dat)), ss = [.d a, .d b, .d v] ∧ KD a ∧ KD b ∧ outGL CR CO a b = .exc C p ∧ o = .exc C p ∧ S' = S
def gRx (f : Dat → Bool) (C : Addr) (ss : List Sl) (S : List Dat) (o : Out) (S' : List Dat) : Prop := ∃ v : Dat, ss = [.d v] ∧ KD v ∧ f v = false ∧ o = .exc C none ∧ S' = S
def gPlus (CR CO : Addr) (ss : List Sl) (S : List Dat) (o : Out) (S' : List Dat) : Prop := gPRx CR CO ss S o S' ∨ ∃ (u v : List Int), ss = [.d (rowD u), .d (rowD v)] ∧ KD (rowD u) ∧ KD (rowD v) ∧ u.length ≤ 1000 ∧ outPR CR CO (rowD u) (rowD v) = .val .non ∧ o = .val (rowD (addR u v)) ∧ S' = S
def gMul (CR CI : Addr) (ss : List Sl) (S : List Dat) (o : Out) (S' : List Dat) : Prop := ∃ (a d : Dat), ss = [.d a, .d d] ∧ KD a ∧ KD d ∧ ((srB a 1 16 = false ∧ o = .exc CR none) ∨ (srB a 1 16 = true ∧ shD d = false ∧ o = .exc CI (some ("given", d))) ∨
  (∃ (u : List Int) (c : Int), a = rowD u ∧ d = .int c ∧ srB a 1 16 = true ∧ shD d = true ∧ u.length ≤ 1000 ∧ (∀ x ∈ u, CMulW c x) ∧ o = .val (rowD (u.map fun x => c * x)))) ∧ S' = S
def gPrim (CR CF : Addr) (ss : List Sl) (S : List Dat) (o : Out) (S' : List Dat) : Prop := gRx (fun v => srB v 1 16) CR ss S o S' ∨ ∃ (n : Nat), ss = [.d (rowD (List.replicate n 0))] ∧ 1 ≤ n ∧ n ≤ 16 ∧ o = .exc CF (some ("reason", .tup [.str "zero"])) ∧ S' = S
def gDet (CR CO : Addr) (ss : List Sl) (S : List Dat) (o : Out) (S' : List Dat) : Prop := gRx (fun v => asrB v 400 16) CR ss S o S' ∨ ∃ (v : Dat), ss = [.d v] ∧ KD v ∧ asrB v 400 16 = true ∧ lenD v ≠ lenR v ∧ o = .exc CO none ∧ S' = S
def gRank (CR : Addr) (ss : List Sl) (S : List Dat) (o : Out) (S' : List Dat) : Prop := gRx (fun v => asrB v 400 16) CR ss S o S' ∨ (ss = [.d ONES] ∧ o = .val (.int 1) ∧ S' = S)
structure OddV (v : Dat) : Prop where
  kd : KD v
  pl : ∀ x xs, v = .tup (x :: xs) → Pl 0 x
  prt : toldB v "parts" 3 = false
  frm : toldB v "form" 2 = true → wrowB (partD v 1) 2 = false
  whl : toldB v "whole" 2 = true → wrowB (partD v 1) 2 = false
  tst : toldB v "test" 3 = false
def ROW2 : Dat := rowD [3, -4]
def ROWS2 : Dat := .tup [rowD [1, 2], rowD [2, 4]]
def gIsP (CR CO : Addr) (ss : List Sl) (S : List Dat) (o : Out) (S' : List Dat) : Prop := gGL3 CR CO ss S o S' ∨ ∃ v : Dat, ss = [.d ROWS2, .d ROW2, .d v] ∧ OddV v ∧ o = .val (.bl false) ∧ S' = S
def gTest (ss : List Sl) (S : List Dat) (r : Dat) (S' : List Dat) : Prop := ∃ (a form : Dat) (u : List Int), ss = [.d a, .d (rowD u), .d form, .d (.int 0)] ∧ KD form ∧ wrowB form u.length = false ∧ r = .bl false ∧ S' = S
theorem lay_p : (PyData.str "parts").canLay0 = true := by decide +kernel
theorem lay_f : (PyData.str "form").canLay0 = true := by decide +kernel
theorem lay_w : (PyData.str "whole").canLay0 = true := by decide +kernel
theorem lay_t : (PyData.str "test").canLay0 = true := by decide +kernel
theorem row_kd (u : List Int) (h : u.length ≤ 1000) : KD (rowD u) := .tup (fun d hd => by
  obtain ⟨x, _, rfl⟩ := List.mem_map.mp hd
  exact .int x) (by rw [List.length_map]; exact h)
theorem rows2_kd : KD ROWS2 := .tup (fun d hd => by
  simp only [List.mem_cons, List.not_mem_nil, or_false] at hd
  rcases hd with rfl | rfl <;> exact row_kd _ (by decide)) (by decide)
theorem row2_kd : KD ROW2 := row_kd _ (by decide)
theorem ones_kd : KD ONES := .tup (fun d hd => by
  obtain ⟨r, hr, rfl⟩ := List.mem_map.mp hd
  rw [List.eq_of_mem_replicate hr]
  exact row_kd _ (by decide)) (by rw [List.length_map, List.length_replicate]; decide)
theorem ones_ok : asrB ONES 400 16 = true := by decide +kernel
theorem out22 {CR CO : Addr} : outGL CR CO ROWS2 ROW2 = .val .non := by
  unfold outGL
  rw [show asrB ROWS2 400 16 = true by decide +kernel, show srB ROW2 1 16 = true by decide +kernel, show decide (lenR ROWS2 = lenD ROW2) = true by decide +kernel]; rfl
theorem zeros_ok : ∀ n, n < 17 → 1 ≤ n → srB (rowD (List.replicate n 0)) 1 16 = true := by decide +kernel
section
variable {P : Program} {w : World} {K : PySem.W.Frag} {mg : Str → Option Value} {base : Heap}

theorem ok_is_row (T : Txt K mg) : FnOk P w K mg base CX0 3 T.a_is_row T.d_is_row ["value"] (SpD K (gB (fun v => srB v 1 16))) := by
  have G_is_short_row := ok_is_short_row (P := P) (w := w) (base := base) T
  have b_is_short_row := T.b_is_short_row
  refine T.F_is_row.ok sc_is_row (spd_len (k := 1) fun ss S r S' hg => ?_) (fun cdv A outer s H vs Q E hr h => ⟨_, (pss_one (ps_ret (pe_call G_is_short_row (hr.mono (by decide)) rfl T.m_is_short_row T.k_is_short_row b_is_short_row .nil pass0 (pa_cons (pv 0) (pa_cons pe_int (pa_cons (pe_glob (v := .int 16) rfl T.m_MOST_LENGTH ⟨_, rfl⟩) pa_nil)))))), sp_body h fun ss S r S' hg => ?_⟩)
  · obtain ⟨v, rfl, _⟩ := hg; rfl
  · obtain ⟨v, rfl, kv, rfl, rfl⟩ := hg
    exact sp_ret (ev_call (ea_cons (ev_var rfl) (ea_cons ev_int (ea_cons ev_int ea_nil))) ⟨v, 1, 16, rfl, kv, rfl, rfl⟩) ⟨rfl, List.take_length⟩
theorem ok_are_rows (T : Txt K mg) : FnOk P w K mg base CX0 2 T.a_are_rows T.d_are_rows ["value"] (SpD K (gB (fun v => asrB v 400 16))) := by
  have G_are_short_rows := ok_are_short_rows (P := P) (w := w) (base := base) T
  have b_are_short_rows := T.b_are_short_rows
  refine T.F_are_rows.ok sc_are_rows (spd_len (k := 1) fun ss S r S' hg => ?_) (fun cdv A outer s H vs Q E hr h => ⟨_, (pss_one (ps_ret (pe_call G_are_short_rows (hr.mono (by decide)) rfl T.m_are_short_rows T.k_are_short_rows b_are_short_rows .nil pass0 (pa_cons (pv 0) (pa_cons (pe_glob (v := .int 400) rfl T.m_MOST_ROWS ⟨_, rfl⟩) (pa_cons (pe_glob (v := .int 16) rfl T.m_MOST_LENGTH ⟨_, rfl⟩) pa_nil)))))), sp_body h fun ss S r S' hg => ?_⟩)
  · obtain ⟨v, rfl, _⟩ := hg; rfl
  · obtain ⟨v, rfl, kv, rfl, rfl⟩ := hg
    exact sp_ret (ev_call (ea_cons (ev_var rfl) (ea_cons ev_int (ea_cons ev_int ea_nil))) ⟨v, 400, 16, rfl, kv, rfl, rfl⟩) ⟨rfl, List.take_length⟩
theorem ok_need_number (T : Txt K mg) : FnOk P w K mg base (L2.CX P w) 3 T.a_need_number T.d_need_number ["number"] (SpR K (gNum T.a_InvalidNumber)) := by
  have G_is_short := ok_is_short (P := P) (w := w) (base := base) T
  have b_is_short := T.b_is_short
  have G_InvalidNumberu_initu := ok_InvalidNumberu_initu (P := P) (w := w) (base := base) T
  have b_InvalidNumberu_initu := T.b_InvalidNumberu_initu
  refine T.F_need_number.okX sc_need_number (spr_len (k := 1) fun ss S o S' hg => ?_) (fun cdv A outer s H vs Q E hr h => ⟨_, (pss_one (ps_if (pt_not (pt_truK K (pe_call G_is_short (hr.mono (by decide)) rfl T.m_is_short T.k_is_short b_is_short .nil pass0 (pa_cons (pv 0) pa_nil)))) (pss_one (ps_raise rfl (takes_of rfl rfl rfl rfl) (pmk_xi T.ox_InvalidNumber T.oi_InvalidNumber T.ot_InvalidNumber G_InvalidNumberu_initu (hr.mono (by decide)) b_InvalidNumberu_initu pass0 rfl T.m_InvalidNumber (pa_cons (pv 0) pa_nil)))) pss_nil)), sp_bodyR h fun ss S o S' hg => ?_⟩)
  · obtain ⟨d, rfl, _⟩ := hg; rfl
  · obtain ⟨d, rfl, hd, rfl, rfl⟩ := hg
    have G_InvalidNumberu_initu := ok_InvalidNumberu_initu (P := P) (w := w) (base := base) T
    refine sp_if (S1 := S') (b := !shD d) (et_not (et_bl (ev_call (ea_cons (ev_var rfl) ea_nil) ⟨d, rfl, hd, rfl, rfl⟩))) (fun h => ?_) fun h => ?_
    · have hf : shD d = false := by simpa using h
      exact sp_raiseG (E := E) (ea_cons (ev_var rfl) ea_nil) T.ox_InvalidNumber T.nf_InvalidNumber (by rw [hf]; show XOk K E _ S' = _; rw [List.take_length]; rfl)
    · have ht : shD d = true := by simpa using h
      exact sp_next ⟨by rw [ht]; rfl, List.take_length⟩
theorem ok_need_row (T : Txt K mg) : FnOk P w K mg base (L2.CX P w) 3 T.a_need_row T.d_need_row ["row"] (SpR K (gNd (fun v => srB v 1 16) T.a_InvalidRow)) := by
  have G_is_short_row := ok_is_short_row (P := P) (w := w) (base := base) T
  have b_is_short_row := T.b_is_short_row
  refine T.F_need_row.okX sc_need_row (spr_len (k := 1) fun ss S o S' hg => ?_) (fun cdv A outer s H vs Q E hr h => ⟨_, (pss_one (ps_if (pt_not (pt_truK K (pe_call G_is_short_row (hr.mono (by decide)) rfl T.m_is_short_row T.k_is_short_row b_is_short_row .nil pass0 (pa_cons (pv 0) (pa_cons pe_int (pa_cons (pe_glob (v := .int 16) rfl T.m_MOST_LENGTH ⟨_, rfl⟩) pa_nil)))))) (pss_one (ps_raise rfl (takes_of rfl rfl rfl rfl) (pmk_own PySem.F.excBase_ValueError T.x_InvalidRow T.m_InvalidRow T.k_InvalidRow (raises_own T.be_InvalidRow T.ty_InvalidRow) (by exact rfl)))) pss_nil)), sp_bodyR h fun ss S o S' hg => ?_⟩)
  · obtain ⟨v, rfl, _⟩ := hg; rfl
  · obtain ⟨v, rfl, hv, rfl, rfl⟩ := hg
    refine sp_if (S1 := S') (b := !srB v 1 16) (et_not (et_bl (ev_call (ea_cons (ev_var rfl) (ea_cons ev_int (ea_cons ev_int ea_nil))) ⟨v, 1, 16, rfl, hv, rfl, rfl⟩))) (fun h => ?_) fun h => ?_
    · have hf : srB v 1 16 = false := by simpa using h
      exact sp_raise0 (E := E) (C := T.a_InvalidRow) (by show XOk K E (if srB v 1 16 = true then _ else _) S' = _; rw [hf, List.take_length]; rfl)
    · have ht : srB v 1 16 = true := by simpa using h
      exact sp_next ⟨by show (if srB v 1 16 = true then _ else _) = _; rw [ht]; rfl, List.take_length⟩
theorem ok_need_rows (T : Txt K mg) : FnOk P w K mg base (L2.CX P w) 3 T.a_need_rows T.d_need_rows ["rows"] (SpR K (gNd (fun v => asrB v 400 16) T.a_InvalidRow)) := by
  have G_are_short_rows := ok_are_short_rows (P := P) (w := w) (base := base) T
  have b_are_short_rows := T.b_are_short_rows
  refine T.F_need_rows.okX sc_need_rows (spr_len (k := 1) fun ss S o S' hg => ?_) (fun cdv A outer s H vs Q E hr h => ⟨_, (pss_one (ps_if (pt_not (pt_truK K (pe_call G_are_short_rows (hr.mono (by decide)) rfl T.m_are_short_rows T.k_are_short_rows b_are_short_rows .nil pass0 (pa_cons (pv 0) (pa_cons (pe_glob (v := .int 400) rfl T.m_MOST_ROWS ⟨_, rfl⟩) (pa_cons (pe_glob (v := .int 16) rfl T.m_MOST_LENGTH ⟨_, rfl⟩) pa_nil)))))) (pss_one (ps_raise rfl (takes_of rfl rfl rfl rfl) (pmk_own PySem.F.excBase_ValueError T.x_InvalidRow T.m_InvalidRow T.k_InvalidRow (raises_own T.be_InvalidRow T.ty_InvalidRow) (by exact rfl)))) pss_nil)), sp_bodyR h fun ss S o S' hg => ?_⟩)
  · obtain ⟨v, rfl, _⟩ := hg; rfl
  · obtain ⟨v, rfl, hv, rfl, rfl⟩ := hg
    refine sp_if (S1 := S') (b := !asrB v 400 16) (et_not (et_bl (ev_call (ea_cons (ev_var rfl) (ea_cons ev_int (ea_cons ev_int ea_nil))) ⟨v, 400, 16, rfl, hv, rfl, rfl⟩))) (fun h => ?_) fun h => ?_
    · have hf : asrB v 400 16 = false := by simpa using h
      exact sp_raise0 (E := E) (C := T.a_InvalidRow) (by show XOk K E (if asrB v 400 16 = true then _ else _) S' = _; rw [hf, List.take_length]; rfl)
    · have ht : asrB v 400 16 = true := by simpa using h
      exact sp_next ⟨by show (if asrB v 400 16 = true then _ else _) = _; rw [ht]; rfl, List.take_length⟩
theorem ok_need_same (T : Txt K mg) : FnOk P w K mg base (L2.CX P w) 1 T.a_need_same T.d_need_same ["one", "other"] (SpR K (gSame T.a_InvalidOperation)) := by
  refine T.F_need_same.okX sc_need_same (spr_len (k := 2) fun ss S o S' hg => ?_) (fun cdv A outer s H vs Q E hr h => ⟨_, (pss_one (ps_if (pt_cmpR op_ne (pe_callB (call_lenK K) (by rfl) T.n_len (by decide +kernel) (pa_cons (pv 0) pa_nil)) (pe_callB (call_lenK K) (by rfl) T.n_len (by decide +kernel) (pa_cons (pv 1) pa_nil)) (nomark _)) (pss_one (ps_raise rfl (takes_of rfl rfl rfl rfl) (pmk_own PySem.F.excBase_ValueError T.x_InvalidOperation T.m_InvalidOperation T.k_InvalidOperation (raises_own T.be_InvalidOperation T.ty_InvalidOperation) (by exact rfl)))) pss_nil)), sp_bodyR h fun ss S o S' hg => ?_⟩)
  · obtain ⟨u, v, rfl, _⟩ := hg; rfl
  · obtain ⟨u, v, rfl, rfl, rfl⟩ := hg
    refine sp_if (S1 := S') (b := !decide (u.length = v.length)) (et_test (Ev.to (ev_op (ev_cb (ea_cons (ev_var rfl) ea_nil) (cd_len .tup)) (ev_cb (ea_cons (ev_var rfl) ea_nil) (cd_len .tup)) op2_ne_int) ?_)) (fun h => ?_) fun h => ?_
    · congr 3
      exact decide_eq_decide.mpr ⟨fun h => by omega, fun h => by omega⟩
    · have hf : decide (u.length = v.length) = false := by simpa using h
      exact sp_raise0 (E := E) (C := T.a_InvalidOperation) (by rw [hf]; show XOk K E _ S' = _; rw [List.take_length]; rfl)
    · have ht : decide (u.length = v.length) = true := by simpa using h
      exact sp_next ⟨by rw [ht]; rfl, List.take_length⟩
theorem ok_need_pair (T : Txt K mg) : FnOk P w K mg base (L2.CX P w) 4 T.a_need_pair T.d_need_pair ["one", "other"] (SpR K (gPR T.a_InvalidRow T.a_InvalidOperation)) := by
  have G_need_row := ok_need_row (P := P) (w := w) (base := base) T
  have b_need_row := T.b_need_row
  have G_need_same := ok_need_same (P := P) (w := w) (base := base) T
  have b_need_same := T.b_need_same
  refine T.F_need_pair.okX sc_need_pair (spr_len (k := 2) fun ss S o S' hg => ?_) (fun cdv A outer s H vs Q E hr h => ⟨_, (pss_cons (ps_expr (pe_call G_need_row (hr.mono (by decide)) rfl T.m_need_row T.k_need_row b_need_row .nil (passR (takes_of rfl rfl rfl rfl)) (pa_cons (pv 0) pa_nil))) (pss_cons (ps_expr (pe_call G_need_row (hr.mono (by decide)) rfl T.m_need_row T.k_need_row b_need_row .nil (passR (takes_of rfl rfl rfl rfl)) (pa_cons (pv 1) pa_nil))) (pss_one (ps_expr (pe_call G_need_same (hr.mono (by decide)) rfl T.m_need_same T.k_need_same b_need_same .nil (passR (takes_of rfl rfl rfl rfl)) (pa_cons (pv 0) (pa_cons (pv 1) pa_nil))))))), sp_bodyR h fun ss S o S' hg => ?_⟩)
  · obtain ⟨a, b, rfl, _⟩ := hg; rfl
  · obtain ⟨a, b, rfl, ka, kb, rfl, rfl⟩ := hg
    refine sp_need (ea_cons (ev_var rfl) ea_nil) ⟨a, rfl, ka, rfl, rfl⟩ (fun r h => ?_) fun C p h => ?_
    · have h1 : srB a 1 16 = true := (ifX_val h).1
      obtain ⟨u, rfl⟩ := sr_tup h1
      refine sp_need (ea_cons (ev_var rfl) ea_nil) ⟨b, rfl, kb, rfl, rfl⟩ (fun r h => ?_) fun C p h => ?_
      · have h2 : srB b 1 16 = true := (ifX_val h).1
        obtain ⟨v, rfl⟩ := sr_tup h2
        have e : outPR T.a_InvalidRow T.a_InvalidOperation (.tup u) (.tup v) = ifX (decide (u.length = v.length)) T.a_InvalidOperation (.val .non) := by unfold outPR; rw [h1, h2]; rfl
        rw [e]
        refine sp_need1 (ea_cons (ev_var rfl) (ea_cons (ev_var rfl) ea_nil)) ⟨u, v, rfl, rfl, rfl⟩ (fun r h => ?_) fun C p h => ?_
        · exact ⟨by rw [(ifX_val h).1]; rfl, List.take_length⟩
        · show XOk K E _ S' = _
          rw [h, List.take_length]
      · show XOk K E _ S' = _
        rcases ifX_exc (show ifX (srB b 1 16) T.a_InvalidRow (.val .non) = _ from h) with ⟨hb, rfl, rfl⟩ | ⟨_, h⟩
        · unfold outPR; rw [h1, hb, List.take_length]; rfl
        · cases h
    · show XOk K E _ S' = _
      rcases ifX_exc (show ifX (srB a 1 16) T.a_InvalidRow (.val .non) = _ from h) with ⟨hb, rfl, rfl⟩ | ⟨_, h⟩
      · unfold outPR; rw [hb, List.take_length]; rfl
      · cases h
theorem ok_need_goal (T : Txt K mg) : FnOk P w K mg base (L2.CX P w) 4 T.a_need_goal T.d_need_goal ["rows", "goal"] (SpR K (gGL T.a_InvalidRow T.a_InvalidOperation)) := by
  have G_need_rows := ok_need_rows (P := P) (w := w) (base := base) T
  have b_need_rows := T.b_need_rows
  have G_need_row := ok_need_row (P := P) (w := w) (base := base) T
  have b_need_row := T.b_need_row
  refine T.F_need_goal.okX sc_need_goal (spr_len (k := 2) fun ss S o S' hg => ?_) (fun cdv A outer s H vs Q E hr h => ⟨_, (pss_cons (ps_expr (pe_call G_need_rows (hr.mono (by decide)) rfl T.m_need_rows T.k_need_rows b_need_rows .nil (passR (takes_of rfl rfl rfl rfl)) (pa_cons (pv 0) pa_nil))) (pss_cons (ps_expr (pe_call G_need_row (hr.mono (by decide)) rfl T.m_need_row T.k_need_row b_need_row .nil (passR (takes_of rfl rfl rfl rfl)) (pa_cons (pv 1) pa_nil))) (pss_one (ps_if (pt_cmpR op_ne (pe_callB (call_lenK K) (by rfl) T.n_len (by decide +kernel) (pa_cons (pe_ix (ix_seqK K) (pv 0) pe_int (fun _ _ => rfl)) pa_nil)) (pe_callB (call_lenK K) (by rfl) T.n_len (by decide +kernel) (pa_cons (pv 1) pa_nil)) (nomark _)) (pss_one (ps_raise rfl (takes_of rfl rfl rfl rfl) (pmk_own PySem.F.excBase_ValueError T.x_InvalidOperation T.m_InvalidOperation T.k_InvalidOperation (raises_own T.be_InvalidOperation T.ty_InvalidOperation) (by exact rfl)))) pss_nil)))), sp_bodyR h fun ss S o S' hg => ?_⟩)
  · obtain ⟨a, b, rfl, _⟩ := hg; rfl
  · obtain ⟨a, b, rfl, ka, kb, rfl, rfl⟩ := hg
    refine sp_need (ea_cons (ev_var rfl) ea_nil) ⟨a, rfl, ka, rfl, rfl⟩ (fun r h => ?_) fun C p h => ?_
    · have h1 : asrB a 400 16 = true := (ifX_val h).1
      obtain ⟨r0, rs, rfl⟩ := asr_first h1
      refine sp_need (ea_cons (ev_var rfl) ea_nil) ⟨b, rfl, kb, rfl, rfl⟩ (fun r h => ?_) fun C p h => ?_
      · have h2 : srB b 1 16 = true := (ifX_val h).1
        obtain ⟨v, rfl⟩ := sr_tup h2
        have e : outGL T.a_InvalidRow T.a_InvalidOperation (.tup (.tup r0 :: rs)) (.tup v) = ifX (decide (r0.length = v.length)) T.a_InvalidOperation (.val .non) := by unfold outGL; rw [h1, h2]; rfl
        rw [e]
        refine sp_if (S1 := S') (b := !decide (r0.length = v.length)) (et_test (Ev.to (ev_op (ev_cb (ea_cons (ev_op (d := .tup r0) (ev_var rfl) ev_int (op2_ix .tup at0)) ea_nil) (cd_len .tup)) (ev_cb (ea_cons (ev_var rfl) ea_nil) (cd_len .tup)) op2_ne_int) ?_)) (fun h => ?_) fun h => ?_
        · congr 3
          exact decide_eq_decide.mpr ⟨fun h => by omega, fun h => by omega⟩
        · have hf : decide (r0.length = v.length) = false := by simpa using h
          exact sp_raise0 (E := E) (C := T.a_InvalidOperation) (by rw [hf]; show XOk K E _ S' = _; rw [List.take_length]; rfl)
        · have ht : decide (r0.length = v.length) = true := by simpa using h
          exact sp_next ⟨by rw [ht]; rfl, List.take_length⟩
      · show XOk K E _ S' = _
        rcases ifX_exc (show ifX (srB b 1 16) T.a_InvalidRow (.val .non) = _ from h) with ⟨hb, rfl, rfl⟩ | ⟨_, h⟩
        · unfold outGL; rw [h1, hb, List.take_length]; rfl
        · cases h
    · show XOk K E _ S' = _
      rcases ifX_exc (show ifX (asrB a 400 16) T.a_InvalidRow (.val .non) = _ from h) with ⟨hb, rfl, rfl⟩ | ⟨_, h⟩
      · unfold outGL; rw [hb, List.take_length]; rfl
      · cases h
theorem ok_plus (T : Txt K mg) : FnOk P w K mg base (L2.CX P w) 5 T.a_plus T.d_plus ["one", "other"] (SpR K (gPlus T.a_InvalidRow T.a_InvalidOperation)) := by
  have G_need_pair := ok_need_pair (P := P) (w := w) (base := base) T
  have b_need_pair := T.b_need_pair
  have G_sum_of := ok_sum_of (P := P) (w := w) (base := base) T
  have b_sum_of := T.b_sum_of
  refine T.F_plus.okX sc_plus (spr_len (k := 2) fun ss S o S' hg => ?_) (fun cdv A outer s H vs Q E hr h => ⟨_, (pss_cons (ps_expr (pe_call G_need_pair (hr.mono (by decide)) rfl T.m_need_pair T.k_need_pair b_need_pair .nil (passR (takes_of rfl rfl rfl rfl)) (pa_cons (pv 0) (pa_cons (pv 1) pa_nil)))) (pss_one (ps_ret (pe_call G_sum_of (hr.mono (by decide)) rfl T.m_sum_of T.k_sum_of b_sum_of .nil pass0 (pa_cons (pv 0) (pa_cons (pv 1) pa_nil)))))), sp_bodyR h fun ss S o S' hg => ?_⟩)
  · rcases hg with ⟨a, b, C, p, rfl, _⟩ | ⟨u, v, rfl, _⟩ <;> rfl
  · rcases hg with ⟨a, b, C, p, rfl, ka, kb, ho, rfl, rfl⟩ | ⟨u, v, rfl, ku, kv, hl, ho, rfl, rfl⟩
    · exact sp_dropXq (ev_callX (ea_cons (ev_var rfl) (ea_cons (ev_var rfl) ea_nil)) ⟨a, b, rfl, ka, kb, ho.symm, rfl⟩) (by show XOk K E _ S' = _; rw [List.take_length])
    · refine sp_drop (ev_callR (ea_cons (ev_var rfl) (ea_cons (ev_var rfl) ea_nil)) ⟨_, _, rfl, ku, kv, ho.symm, rfl⟩) ?_
      exact sp_ret (ev_call (ea_cons (ev_var rfl) (ea_cons (ev_var rfl) ea_nil)) ⟨u, v, rfl, hl, rfl, rfl⟩) ⟨rfl, List.take_length⟩
theorem ok_less (T : Txt K mg) : FnOk P w K mg base (L2.CX P w) 5 T.a_less T.d_less ["one", "other"] (SpR K (gPRx T.a_InvalidRow T.a_InvalidOperation)) := by
  have G_need_pair := ok_need_pair (P := P) (w := w) (base := base) T
  have b_need_pair := T.b_need_pair
  refine T.F_less.okX sc_less (spr_len (k := 2) fun ss S o S' hg => ?_) (fun cdv A outer s H vs Q E hr h => ⟨_, (pss_cons (ps_expr (pe_call G_need_pair (hr.mono (by decide)) rfl T.m_need_pair T.k_need_pair b_need_pair .nil (passR (takes_of rfl rfl rfl rfl)) (pa_cons (pv 0) (pa_cons (pv 1) pa_nil)))) (pss_one ps_never)), sp_bodyR h fun ss S o S' hg => ?_⟩)
  · obtain ⟨a, b, C, p, rfl, _⟩ := hg; rfl
  · obtain ⟨a, b, C, p, rfl, ka, kb, ho, rfl, rfl⟩ := hg
    exact sp_dropXq (ev_callX (ea_cons (ev_var rfl) (ea_cons (ev_var rfl) ea_nil)) ⟨a, b, rfl, ka, kb, ho.symm, rfl⟩) (by show XOk K E _ S' = _; rw [List.take_length])
theorem ok_dot (T : Txt K mg) : FnOk P w K mg base (L2.CX P w) 5 T.a_dot T.d_dot ["one", "other"] (SpR K (gPRx T.a_InvalidRow T.a_InvalidOperation)) := by
  have G_need_pair := ok_need_pair (P := P) (w := w) (base := base) T
  have b_need_pair := T.b_need_pair
  refine T.F_dot.okX sc_dot (spr_len (k := 2) fun ss S o S' hg => ?_) (fun cdv A outer s H vs Q E hr h => ⟨_, (pss_cons (ps_expr (pe_call G_need_pair (hr.mono (by decide)) rfl T.m_need_pair T.k_need_pair b_need_pair .nil (passR (takes_of rfl rfl rfl rfl)) (pa_cons (pv 0) (pa_cons (pv 1) pa_nil)))) (pss_one ps_never)), sp_bodyR h fun ss S o S' hg => ?_⟩)
  · obtain ⟨a, b, C, p, rfl, _⟩ := hg; rfl
  · obtain ⟨a, b, C, p, rfl, ka, kb, ho, rfl, rfl⟩ := hg
    exact sp_dropXq (ev_callX (ea_cons (ev_var rfl) (ea_cons (ev_var rfl) ea_nil)) ⟨a, b, rfl, ka, kb, ho.symm, rfl⟩) (by show XOk K E _ S' = _; rw [List.take_length])
theorem ok_multiple (T : Txt K mg) : FnOk P w K mg base (L2.CX P w) 5 T.a_multiple T.d_multiple ["row", "number"] (SpR K (gMul T.a_InvalidRow T.a_InvalidNumber)) := by
  have G_need_row := ok_need_row (P := P) (w := w) (base := base) T
  have b_need_row := T.b_need_row
  have G_need_number := ok_need_number (P := P) (w := w) (base := base) T
  have b_need_number := T.b_need_number
  have G_times := ok_times (P := P) (w := w) (base := base) T
  have b_times := T.b_times
  refine T.F_multiple.okX sc_multiple (spr_len (k := 2) fun ss S o S' hg => ?_) (fun cdv A outer s H vs Q E hr h => ⟨_, (pss_cons (ps_expr (pe_call G_need_row (hr.mono (by decide)) rfl T.m_need_row T.k_need_row b_need_row .nil (passR (takes_of rfl rfl rfl rfl)) (pa_cons (pv 0) pa_nil))) (pss_cons (ps_expr (pe_call G_need_number (hr.mono (by decide)) rfl T.m_need_number T.k_need_number b_need_number .nil (passR (takes_of rfl rfl rfl rfl)) (pa_cons (pv 1) pa_nil))) (pss_one (ps_ret (pe_call G_times (hr.mono (by decide)) rfl T.m_times T.k_times b_times .nil pass0 (pa_cons (pv 0) (pa_cons (pv 1) pa_nil))))))), sp_bodyR h fun ss S o S' hg => ?_⟩)
  · obtain ⟨a, d, rfl, _⟩ := hg; rfl
  · obtain ⟨a, d, rfl, ka, kd, h, rfl⟩ := hg
    rcases h with ⟨h1, rfl⟩ | ⟨h1, h2, rfl⟩ | ⟨u, c, rfl, rfl, h1, h2, hl, hc, rfl⟩
    · exact sp_dropXq (ev_callX (C := T.a_InvalidRow) (p := none) (ea_cons (ev_var rfl) ea_nil) ⟨a, rfl, ka, by show _ = ifX (srB a 1 16) _ _; rw [h1]; rfl, rfl⟩) (by show XOk K E _ S' = _; rw [List.take_length])
    · refine sp_drop (ev_callR (d := .non) (ea_cons (ev_var rfl) ea_nil) ⟨a, rfl, ka, by show _ = ifX (srB a 1 16) _ _; rw [h1]; rfl, rfl⟩) ?_
      exact sp_dropXq (ev_callX (C := T.a_InvalidNumber) (p := some ("given", d)) (ea_cons (ev_var rfl) ea_nil) ⟨d, rfl, kd, by rw [h2]; rfl, rfl⟩) (by show XOk K E _ S' = _; rw [List.take_length])
    · refine sp_drop (ev_callR (d := .non) (ea_cons (ev_var rfl) ea_nil) ⟨_, rfl, ka, by show _ = ifX (srB (rowD u) 1 16) _ _; rw [h1]; rfl, rfl⟩) ?_
      refine sp_drop (ev_callR (d := .non) (ea_cons (ev_var rfl) ea_nil) ⟨_, rfl, kd, by rw [h2]; rfl, rfl⟩) ?_
      exact sp_ret (ev_call (ea_cons (ev_var rfl) (ea_cons (ev_var rfl) ea_nil)) ⟨u, c, rfl, hl, hc, rfl, rfl⟩) ⟨rfl, List.take_length⟩
theorem ok_content (T : Txt K mg) : FnOk P w K mg base (L2.CX P w) 5 T.a_content T.d_content ["row"] (SpR K (gRx (fun v => srB v 1 16) T.a_InvalidRow)) := by
  have G_need_row := ok_need_row (P := P) (w := w) (base := base) T
  have b_need_row := T.b_need_row
  refine T.F_content.okX sc_content (spr_len (k := 1) fun ss S o S' hg => ?_) (fun cdv A outer s H vs Q E hr h => ⟨_, (pss_cons (ps_expr (pe_call G_need_row (hr.mono (by decide)) rfl T.m_need_row T.k_need_row b_need_row .nil (passR (takes_of rfl rfl rfl rfl)) (pa_cons (pv 0) pa_nil))) (pss_one ps_never)), sp_bodyR h fun ss S o S' hg => ?_⟩)
  · obtain ⟨v, rfl, _⟩ := hg; rfl
  · obtain ⟨v, rfl, kv, hv, rfl, rfl⟩ := hg
    have hv' : srB v 1 16 = false := hv
    exact sp_dropXq (ev_callX (C := T.a_InvalidRow) (p := none) (ea_cons (ev_var rfl) ea_nil) ⟨v, rfl, kv, by show _ = ifX (srB v 1 16) _ _; rw [hv']; rfl, rfl⟩) (by show XOk K E _ S' = _; rw [List.take_length])
theorem ok_primitive (T : Txt K mg) : FnOk P w K mg base (L2.CX P w) 5 T.a_primitive T.d_primitive ["row"] (SpR K (gPrim T.a_InvalidRow T.a_Refused)) := by
  have G_need_row := ok_need_row (P := P) (w := w) (base := base) T
  have b_need_row := T.b_need_row
  have G_content_of := ok_content_of (P := P) (w := w) (base := base) T
  have b_content_of := T.b_content_of
  have G_Refusedu_initu := ok_Refusedu_initu (P := P) (w := w) (base := base) T
  have b_Refusedu_initu := T.b_Refusedu_initu
  refine T.F_primitive.okX sc_primitive (spr_len (k := 1) fun ss S o S' hg => ?_) (fun cdv A outer s H vs Q E hr h => ⟨_, (pss_cons (ps_expr (pe_call G_need_row (hr.mono (by decide)) rfl T.m_need_row T.k_need_row b_need_row .nil (passR (takes_of rfl rfl rfl rfl)) (pa_cons (pv 0) pa_nil))) (pss_cons (ps_set (i := 1) sc_primitive.nd rfl (by first | exact Or.inl rfl | exact Or.inr rfl) (pe_call G_content_of (hr.mono (by decide)) rfl T.m_content_of T.k_content_of b_content_of .nil pass0 (pa_cons (pv 0) pa_nil))) (pss_cons (ps_if (pt_cmpR op_eq (pv 1) pe_int (nomark _)) (pss_one (ps_raise rfl (takes_of rfl rfl rfl rfl) (pmk_xi T.ox_Refused T.oi_Refused T.ot_Refused G_Refusedu_initu (hr.mono (by decide)) b_Refusedu_initu pass0 rfl T.m_Refused (pa_cons (pe_tup (pa_cons pe_str pa_nil)) pa_nil)))) pss_nil) (pss_cons ps_never (pss_one ps_never))))), sp_bodyR h fun ss S o S' hg => ?_⟩)
  · rcases hg with ⟨v, rfl, _⟩ | ⟨n, rfl, _⟩ <;> rfl
  · rcases hg with ⟨v, rfl, kv, hv, rfl, rfl⟩ | ⟨n, rfl, h1, h2, rfl, rfl⟩
    · have hv' : srB v 1 16 = false := hv
      exact sp_dropXq (ev_callX (C := T.a_InvalidRow) (p := none) (ea_cons (ev_var rfl) ea_nil) ⟨v, rfl, kv, by show _ = ifX (srB v 1 16) _ _; rw [hv']; rfl, rfl⟩) (by show XOk K E _ S' = _; rw [List.take_length])
    · have G_Refusedu_initu := ok_Refusedu_initu (P := P) (w := w) (base := base) T
      refine sp_drop (ev_callR (d := .non) (ea_cons (ev_var rfl) ea_nil) ⟨_, rfl, row_kd _ (by rw [List.length_replicate]; omega), by show _ = ifX (srB (rowD (List.replicate n 0)) 1 16) _ _; rw [zeros_ok n (by omega) h1]; rfl, rfl⟩) ?_
      refine sp_set (ev_call (ea_cons (ev_var rfl) ea_nil) ⟨n, rfl, rfl, rfl⟩) ?_
      exact sp_ifq (S1 := S') (b := true) (et_test (Ev.to (ev_op (ev_var rfl) ev_int op2_eq_int) rfl)) (fun _ => sp_raiseGq (E := E) (ea_cons (ev_tup (ds := [.str "zero"]) (ea_cons ev_str ea_nil) (by show 1 ≤ sizeLine; decide)) ea_nil) T.ox_Refused T.nf_Refused (by show XOk K E _ S' = _; rw [List.take_length])) (fun h => by cases h)
theorem ok_determinant (T : Txt K mg) : FnOk P w K mg base (L2.CX P w) 5 T.a_determinant T.d_determinant ["rows"] (SpR K (gDet T.a_InvalidRow T.a_InvalidOperation)) := by
  have G_need_rows := ok_need_rows (P := P) (w := w) (base := base) T
  have b_need_rows := T.b_need_rows
  refine T.F_determinant.okX sc_determinant (spr_len (k := 1) fun ss S o S' hg => ?_) (fun cdv A outer s H vs Q E hr h => ⟨_, (pss_cons (ps_expr (pe_call G_need_rows (hr.mono (by decide)) rfl T.m_need_rows T.k_need_rows b_need_rows .nil (passR (takes_of rfl rfl rfl rfl)) (pa_cons (pv 0) pa_nil))) (pss_cons (ps_if (pt_cmpR op_ne (pe_callB (call_lenK K) (by rfl) T.n_len (by decide +kernel) (pa_cons (pv 0) pa_nil)) (pe_callB (call_lenK K) (by rfl) T.n_len (by decide +kernel) (pa_cons (pe_ix (ix_seqK K) (pv 0) pe_int (fun _ _ => rfl)) pa_nil)) (nomark _)) (pss_one (ps_raise rfl (takes_of rfl rfl rfl rfl) (pmk_own PySem.F.excBase_ValueError T.x_InvalidOperation T.m_InvalidOperation T.k_InvalidOperation (raises_own T.be_InvalidOperation T.ty_InvalidOperation) (by exact rfl)))) pss_nil) (pss_one ps_never))), sp_bodyR h fun ss S o S' hg => ?_⟩)
  · rcases hg with ⟨v, rfl, _⟩ | ⟨v, rfl, _⟩ <;> rfl
  · rcases hg with ⟨v, rfl, kv, hv, rfl, rfl⟩ | ⟨v, rfl, kv, h1, hne, rfl, rfl⟩
    · have hv' : asrB v 400 16 = false := hv
      exact sp_dropXq (ev_callX (C := T.a_InvalidRow) (p := none) (ea_cons (ev_var rfl) ea_nil) ⟨v, rfl, kv, by show _ = ifX (asrB v 400 16) _ _; rw [hv']; rfl, rfl⟩) (by show XOk K E _ S' = _; rw [List.take_length])
    · refine sp_drop (ev_callR (d := .non) (ea_cons (ev_var rfl) ea_nil) ⟨_, rfl, kv, by show _ = ifX (asrB v 400 16) _ _; rw [h1]; rfl, rfl⟩) ?_
      obtain ⟨r0, rs, rfl⟩ := asr_first h1
      have hne' : ¬ (Dat.tup r0 :: rs).length = r0.length := hne
      exact sp_ifq (S1 := S') (b := true) (et_test (Ev.to (ev_op (ev_cb (ea_cons (ev_var rfl) ea_nil) (cd_len .tup)) (ev_cb (ea_cons (ev_op (d := .tup r0) (ev_var rfl) ev_int (op2_ix .tup at0)) ea_nil) (cd_len .tup)) op2_ne_int) (by rw [decide_eq_false (by omega)]; rfl))) (fun _ => sp_raise0q (E := E) (C := T.a_InvalidOperation) (by show XOk K E _ S' = _; rw [List.take_length])) (fun h => by cases h)
theorem ok_rank (T : Txt K mg) : FnOk P w K mg base (L2.CX P w) 5 T.a_rank T.d_rank ["rows"] (SpR K (gRank T.a_InvalidRow)) := by
  have G_need_rows := ok_need_rows (P := P) (w := w) (base := base) T
  have b_need_rows := T.b_need_rows
  have G_eliminated := ok_eliminated (P := P) (w := w) (base := base) T
  have b_eliminated := T.b_eliminated
  refine T.F_rank.okX sc_rank (spr_len (k := 1) fun ss S o S' hg => ?_) (fun cdv A outer s H vs Q E hr h => ⟨_, (pss_cons (ps_expr (pe_call G_need_rows (hr.mono (by decide)) rfl T.m_need_rows T.k_need_rows b_need_rows .nil (passR (takes_of rfl rfl rfl rfl)) (pa_cons (pv 0) pa_nil))) (pss_cons (ps_asg (pe_call G_eliminated (hr.mono (by decide)) rfl T.m_eliminated T.k_eliminated b_eliminated .nil pass0 (pa_cons (pv 0) pa_nil)) (pg_tup rfl (pgs_cons (pg_name (i := 1) sc_rank.nd rfl (by first | exact Or.inl rfl | exact Or.inr rfl)) (pgs_cons (pg_name (i := 2) sc_rank.nd rfl (by first | exact Or.inl rfl | exact Or.inr rfl)) (pgs_cons (pg_name (i := 2) sc_rank.nd rfl (by first | exact Or.inl rfl | exact Or.inr rfl)) pgs_nil))))) (pss_one (ps_ret (pe_callB (call_lenK K) (by rfl) T.n_len (by decide +kernel) (pa_cons (pv 1) pa_nil)))))), sp_bodyR h fun ss S o S' hg => ?_⟩)
  · rcases hg with ⟨v, rfl, _⟩ | ⟨rfl, _⟩ <;> rfl
  · rcases hg with ⟨v, rfl, kv, hv, rfl, rfl⟩ | ⟨rfl, rfl, rfl⟩
    · have hv' : asrB v 400 16 = false := hv
      exact sp_dropXq (ev_callX (C := T.a_InvalidRow) (p := none) (ea_cons (ev_var rfl) ea_nil) ⟨v, rfl, kv, by show _ = ifX (asrB v 400 16) _ _; rw [hv']; rfl, rfl⟩) (by show XOk K E _ S' = _; rw [List.take_length])
    · refine sp_drop (ev_callR (d := .non) (ea_cons (ev_var rfl) ea_nil) ⟨_, rfl, ones_kd, by show _ = ifX (asrB ONES 400 16) _ _; rw [ones_ok]; rfl, rfl⟩) ?_
      refine sp_asg (S1 := S') (d := .tup [.lst [.int 0], .lst [.int 0], .int 1]) (ev_call (ea_cons (ev_var rfl) ea_nil) ⟨rfl, rfl, rfl⟩) tg_three ?_
      exact sp_ret (Ev.to (ev_cb (ea_cons (ev_var rfl) ea_nil) (cd_len .lst)) rfl) ⟨rfl, List.take_length⟩
theorem ok_basis (T : Txt K mg) : FnOk P w K mg base (L2.CX P w) 5 T.a_basis T.d_basis ["rows"] (SpR K (gRx (fun v => asrB v 400 16) T.a_InvalidRow)) := by
  have G_need_rows := ok_need_rows (P := P) (w := w) (base := base) T
  have b_need_rows := T.b_need_rows
  refine T.F_basis.okX sc_basis (spr_len (k := 1) fun ss S o S' hg => ?_) (fun cdv A outer s H vs Q E hr h => ⟨_, (pss_cons (ps_expr (pe_call G_need_rows (hr.mono (by decide)) rfl T.m_need_rows T.k_need_rows b_need_rows .nil (passR (takes_of rfl rfl rfl rfl)) (pa_cons (pv 0) pa_nil))) (pss_one ps_never)), sp_bodyR h fun ss S o S' hg => ?_⟩)
  · obtain ⟨v, rfl, _⟩ := hg; rfl
  · obtain ⟨v, rfl, kv, hv, rfl, rfl⟩ := hg
    have hv' : asrB v 400 16 = false := hv
    exact sp_dropXq (ev_callX (C := T.a_InvalidRow) (p := none) (ea_cons (ev_var rfl) ea_nil) ⟨v, rfl, kv, by show _ = ifX (asrB v 400 16) _ _; rw [hv']; rfl, rfl⟩) (by show XOk K E _ S' = _; rw [List.take_length])
theorem ok_kernel (T : Txt K mg) : FnOk P w K mg base (L2.CX P w) 5 T.a_kernel T.d_kernel ["rows"] (SpR K (gRx (fun v => asrB v 400 16) T.a_InvalidRow)) := by
  have G_need_rows := ok_need_rows (P := P) (w := w) (base := base) T
  have b_need_rows := T.b_need_rows
  refine T.F_kernel.okX sc_kernel (spr_len (k := 1) fun ss S o S' hg => ?_) (fun cdv A outer s H vs Q E hr h => ⟨_, (pss_cons (ps_expr (pe_call G_need_rows (hr.mono (by decide)) rfl T.m_need_rows T.k_need_rows b_need_rows .nil (passR (takes_of rfl rfl rfl rfl)) (pa_cons (pv 0) pa_nil))) (pss_cons ps_never (pss_one ps_never))), sp_bodyR h fun ss S o S' hg => ?_⟩)
  · obtain ⟨v, rfl, _⟩ := hg; rfl
  · obtain ⟨v, rfl, kv, hv, rfl, rfl⟩ := hg
    have hv' : asrB v 400 16 = false := hv
    exact sp_dropXq (ev_callX (C := T.a_InvalidRow) (p := none) (ea_cons (ev_var rfl) ea_nil) ⟨v, rfl, kv, by show _ = ifX (asrB v 400 16) _ _; rw [hv']; rfl, rfl⟩) (by show XOk K E _ S' = _; rw [List.take_length])
theorem ok_parts_or_form (T : Txt K mg) : FnOk P w K mg base (L2.CX P w) 5 T.a_parts_or_form T.d_parts_or_form ["rows", "goal"] (SpR K (gGLx T.a_InvalidRow T.a_InvalidOperation)) := by
  have G_need_goal := ok_need_goal (P := P) (w := w) (base := base) T
  have b_need_goal := T.b_need_goal
  refine T.F_parts_or_form.okX sc_parts_or_form (spr_len (k := 2) fun ss S o S' hg => ?_) (fun cdv A outer s H vs Q E hr h => ⟨_, (pss_cons (ps_expr (pe_call G_need_goal (hr.mono (by decide)) rfl T.m_need_goal T.k_need_goal b_need_goal .nil (passR (takes_of rfl rfl rfl rfl)) (pa_cons (pv 0) (pa_cons (pv 1) pa_nil)))) (pss_cons ps_never (pss_cons ps_never (pss_cons ps_never (pss_cons ps_never (pss_one ps_never)))))), sp_bodyR h fun ss S o S' hg => ?_⟩)
  · obtain ⟨a, b, C, p, rfl, _⟩ := hg; rfl
  · obtain ⟨a, b, C, p, rfl, ka, kb, ho, rfl, rfl⟩ := hg
    exact sp_dropXq (ev_callX (ea_cons (ev_var rfl) (ea_cons (ev_var rfl) ea_nil)) ⟨a, b, rfl, ka, kb, ho.symm, rfl⟩) (by show XOk K E _ S' = _; rw [List.take_length])
theorem ok_whole_or_test (T : Txt K mg) : FnOk P w K mg base (L2.CX P w) 5 T.a_whole_or_test T.d_whole_or_test ["rows", "goal"] (SpR K (gGLx T.a_InvalidRow T.a_InvalidOperation)) := by
  have G_need_goal := ok_need_goal (P := P) (w := w) (base := base) T
  have b_need_goal := T.b_need_goal
  refine T.F_whole_or_test.okX sc_whole_or_test (spr_len (k := 2) fun ss S o S' hg => ?_) (fun cdv A outer s H vs Q E hr h => ⟨_, (pss_cons (ps_expr (pe_call G_need_goal (hr.mono (by decide)) rfl T.m_need_goal T.k_need_goal b_need_goal .nil (passR (takes_of rfl rfl rfl rfl)) (pa_cons (pv 0) (pa_cons (pv 1) pa_nil)))) (pss_cons ps_never (pss_cons ps_never (pss_cons ps_never (pss_cons ps_never (pss_cons ps_never (pss_cons ps_never (pss_cons ps_never (pss_cons ps_never (pss_one ps_never)))))))))), sp_bodyR h fun ss S o S' hg => ?_⟩)
  · obtain ⟨a, b, C, p, rfl, _⟩ := hg; rfl
  · obtain ⟨a, b, C, p, rfl, ka, kb, ho, rfl, rfl⟩ := hg
    exact sp_dropXq (ev_callX (ea_cons (ev_var rfl) (ea_cons (ev_var rfl) ea_nil)) ⟨a, b, rfl, ka, kb, ho.symm, rfl⟩) (by show XOk K E _ S' = _; rw [List.take_length])
theorem ok_is_test (T : Txt K mg) : FnOk P w K mg base CX0 4 T.a_is_test T.d_is_test ["rows", "goal", "form", "m"] (SpD K (gTest)) := by
  have G_is_whole_row := ok_is_whole_row (P := P) (w := w) (base := base) T
  have b_is_whole_row := T.b_is_whole_row
  refine T.F_is_test.ok sc_is_test (spd_len (k := 4) fun ss S r S' hg => ?_) (fun cdv A outer s H vs Q E hr h => ⟨_, (pss_cons (ps_if (pt_not (pt_truK K (pe_call G_is_whole_row (hr.mono (by decide)) rfl T.m_is_whole_row T.k_is_whole_row b_is_whole_row .nil pass0 (pa_cons (pv 2) (pa_cons (pe_callB (call_lenK K) (by rfl) T.n_len (by decide +kernel) (pa_cons (pv 1) pa_nil)) pa_nil))))) (pss_one (ps_ret pe_bl)) pss_nil) (pss_cons ps_never (pss_one ps_never))), sp_body h fun ss S r S' hg => ?_⟩)
  · obtain ⟨a, f, u, rfl, _⟩ := hg; rfl
  · obtain ⟨a, f, u, rfl, kf, hw, rfl, rfl⟩ := hg
    exact sp_ifq (S1 := S') (b := true) (et_not (a := false) (et_bl (Ev.to (ev_call (ea_cons (ev_var rfl) (ea_cons (Ev.to (ev_cb (ea_cons (ev_var rfl) ea_nil) (cd_len .tup)) (r' := .d (.int (u.length : Nat))) (by rw [List.length_map])) ea_nil)) ⟨f, u.length, rfl, kf, rfl, rfl⟩) (by rw [hw])))) (fun _ => sp_retq (sp_ret ev_bl ⟨rfl, List.take_length⟩)) (fun h => by cases h)
theorem ok_is_parts_or_form (T : Txt K mg) : FnOk P w K mg base (L2.CX P w) 5 T.a_is_parts_or_form T.d_is_parts_or_form ["rows", "goal", "value"] (SpR K (gIsP T.a_InvalidRow T.a_InvalidOperation)) := by
  have G_need_goal := ok_need_goal (P := P) (w := w) (base := base) T
  have b_need_goal := T.b_need_goal
  have G_is_told := ok_is_told (P := P) (w := w) (base := base) T
  have b_is_told := T.b_is_told
  have G_is_test := ok_is_test (P := P) (w := w) (base := base) T
  have b_is_test := T.b_is_test
  refine T.F_is_parts_or_form.okX sc_is_parts_or_form (spr_len (k := 3) fun ss S o S' hg => ?_) (fun cdv A outer s H vs Q E hr h => ⟨_, (pss_cons (ps_expr (pe_call G_need_goal (hr.mono (by decide)) rfl T.m_need_goal T.k_need_goal b_need_goal .nil (passR (takes_of rfl rfl rfl rfl)) (pa_cons (pv 0) (pa_cons (pv 1) pa_nil)))) (pss_cons (ps_if (pt_truK K (pe_call G_is_told (hr.mono (by decide)) rfl T.m_is_told T.k_is_told b_is_told .nil pass0 (pa_cons (pv 2) (pa_cons pe_str (pa_cons pe_int pa_nil))))) (pss_cons ps_never (pss_cons ps_never (pss_one ps_never))) pss_nil) (pss_cons (ps_if (pt_truK K (pe_call G_is_told (hr.mono (by decide)) rfl T.m_is_told T.k_is_told b_is_told .nil pass0 (pa_cons (pv 2) (pa_cons pe_str (pa_cons pe_int pa_nil))))) (pss_one (ps_ret (pe_call G_is_test (hr.mono (by decide)) rfl T.m_is_test T.k_is_test b_is_test .nil pass0 (pa_cons (pv 0) (pa_cons (pv 1) (pa_cons (pe_ix (ix_seqK K) (pv 2) pe_int (fun _ _ => rfl)) (pa_cons pe_int pa_nil))))))) pss_nil) (pss_one (ps_ret pe_bl))))), sp_bodyR h fun ss S o S' hg => ?_⟩)
  · rcases hg with ⟨a, b, v, C, p, rfl, _⟩ | ⟨v, rfl, _⟩ <;> rfl
  · rcases hg with ⟨a, b, v, C, p, rfl, ka, kb, ho, rfl, rfl⟩ | ⟨v, rfl, hv, rfl, rfl⟩
    · exact sp_dropXq (ev_callX (ea_cons (ev_var rfl) (ea_cons (ev_var rfl) ea_nil)) ⟨a, b, rfl, ka, kb, ho.symm, rfl⟩) (by show XOk K E _ S' = _; rw [List.take_length])
    · refine sp_drop (ev_callR (ea_cons (ev_var rfl) (ea_cons (ev_var rfl) ea_nil)) ⟨_, _, rfl, rows2_kd, row2_kd, out22.symm, rfl⟩) ?_
      refine sp_ifq (S1 := S') (b := false) (et_bl (Ev.to (ev_call (ea_cons (ev_var rfl) (ea_cons ev_str (ea_cons ev_int ea_nil))) ⟨3, v, "parts", rfl, hv.kd, hv.pl, by omega, lay_p, rfl, rfl⟩) (by rw [hv.prt]))) (fun h => by cases h) fun _ => sp_nextq ?_
      refine sp_ifq (S1 := S') (b := toldB v "form" 2) (et_bl (ev_call (ea_cons (ev_var rfl) (ea_cons ev_str (ea_cons ev_int ea_nil))) ⟨2, v, "form", rfl, hv.kd, hv.pl, by omega, lay_f, rfl, rfl⟩)) (fun h => ?_) fun _ => sp_nextq (sp_ret ev_bl ⟨rfl, List.take_length⟩)
      have hw := hv.frm h
      have k1 := kd_part (i := 1) hv.kd
      obtain ⟨xs, rfl, hx⟩ := told_len h
      exact sp_retq (sp_ret (ev_call (ea_cons (ev_var rfl) (ea_cons (ev_var rfl) (ea_cons (ev_op (d := partD (.tup xs) 1) (ev_var rfl) (ev_int (i := 1)) (op2_ix .tup (part_at (i := 1) (by omega)))) (ea_cons ev_int ea_nil)))) ⟨_, _, [3, -4], rfl, k1, hw, rfl, rfl⟩) ⟨rfl, List.take_length⟩)
theorem ok_is_whole_or_test (T : Txt K mg) : FnOk P w K mg base (L2.CX P w) 5 T.a_is_whole_or_test T.d_is_whole_or_test ["rows", "goal", "value"] (SpR K (gIsP T.a_InvalidRow T.a_InvalidOperation)) := by
  have G_need_goal := ok_need_goal (P := P) (w := w) (base := base) T
  have b_need_goal := T.b_need_goal
  have G_is_told := ok_is_told (P := P) (w := w) (base := base) T
  have b_is_told := T.b_is_told
  have G_is_whole_row := ok_is_whole_row (P := P) (w := w) (base := base) T
  have b_is_whole_row := T.b_is_whole_row
  refine T.F_is_whole_or_test.okX sc_is_whole_or_test (spr_len (k := 3) fun ss S o S' hg => ?_) (fun cdv A outer s H vs Q E hr h => ⟨_, (pss_cons (ps_expr (pe_call G_need_goal (hr.mono (by decide)) rfl T.m_need_goal T.k_need_goal b_need_goal .nil (passR (takes_of rfl rfl rfl rfl)) (pa_cons (pv 0) (pa_cons (pv 1) pa_nil)))) (pss_cons (ps_if (pt_truK K (pe_call G_is_told (hr.mono (by decide)) rfl T.m_is_told T.k_is_told b_is_told .nil pass0 (pa_cons (pv 2) (pa_cons pe_str (pa_cons pe_int pa_nil))))) (pss_one (ps_ret (pe_and (pe_call G_is_whole_row (hr.mono (by decide)) rfl T.m_is_whole_row T.k_is_whole_row b_is_whole_row .nil pass0 (pa_cons (pe_ix (ix_seqK K) (pv 2) pe_int (fun _ _ => rfl)) (pa_cons (pe_callB (call_lenK K) (by rfl) T.n_len (by decide +kernel) (pa_cons (pv 0) pa_nil)) pa_nil))) (pe_one pe_no)))) pss_nil) (pss_cons (ps_if (pt_truK K (pe_call G_is_told (hr.mono (by decide)) rfl T.m_is_told T.k_is_told b_is_told .nil pass0 (pa_cons (pv 2) (pa_cons pe_str (pa_cons pe_int pa_nil))))) (pss_cons ps_never (pss_one ps_never)) pss_nil) (pss_one (ps_ret pe_bl))))), sp_bodyR h fun ss S o S' hg => ?_⟩)
  · rcases hg with ⟨a, b, v, C, p, rfl, _⟩ | ⟨v, rfl, _⟩ <;> rfl
  · rcases hg with ⟨a, b, v, C, p, rfl, ka, kb, ho, rfl, rfl⟩ | ⟨v, rfl, hv, rfl, rfl⟩
    · exact sp_dropXq (ev_callX (ea_cons (ev_var rfl) (ea_cons (ev_var rfl) ea_nil)) ⟨a, b, rfl, ka, kb, ho.symm, rfl⟩) (by show XOk K E _ S' = _; rw [List.take_length])
    · refine sp_drop (ev_callR (ea_cons (ev_var rfl) (ea_cons (ev_var rfl) ea_nil)) ⟨_, _, rfl, rows2_kd, row2_kd, out22.symm, rfl⟩) ?_
      refine sp_ifq (S1 := S') (b := toldB v "whole" 2) (et_bl (ev_call (ea_cons (ev_var rfl) (ea_cons ev_str (ea_cons ev_int ea_nil))) ⟨2, v, "whole", rfl, hv.kd, hv.pl, by omega, lay_w, rfl, rfl⟩)) (fun h => ?_) fun _ => sp_nextq ?_
      · have hw := hv.whl h
        have k1 := kd_part (i := 1) hv.kd
        obtain ⟨xs, rfl, hx⟩ := told_len h
        exact sp_retq (sp_ret (d := .bl false) (ev_andV (a := false) (b := false) (Ev.to (ev_call (ea_cons (ev_op (d := partD (.tup xs) 1) (ev_var rfl) (ev_int (i := 1)) (op2_ix .tup (part_at (i := 1) (by omega)))) (ea_cons (Ev.to (ev_cb (ea_cons (ev_var rfl) ea_nil) (cd_len .tup)) (r' := .d (.int ((2 : Nat) : Int))) rfl) ea_nil)) ⟨_, 2, rfl, k1, rfl, rfl⟩) (by rw [hw])) fun h => by cases h) ⟨rfl, List.take_length⟩)
      · exact sp_ifq (S1 := S') (b := false) (et_bl (Ev.to (ev_call (ea_cons (ev_var rfl) (ea_cons ev_str (ea_cons ev_int ea_nil))) ⟨3, v, "test", rfl, hv.kd, hv.pl, by omega, lay_t, rfl, rfl⟩) (by rw [hv.tst]))) (fun h => by cases h) fun _ => sp_nextq (sp_ret ev_bl ⟨rfl, List.take_length⟩)
end
end N03

set_option Elab.async false
set_option linter.all false
set_option maxRecDepth 100000
set_option maxHeartbeats 4000000
namespace N03
open PySem PySem.Spec PyProof.Rows L2 RW

/-! what is drawn from: the start, a number, one of several (made from wip/tools/Vd.txt) -/
def cellF (ns : List Int) (i : Nat) : Int := if i < ns.length then ns.getD i 0 else 167 * (i : Nat) + 59
def big : Int := (10 ^ (57 : Int).toNat) ^ (7 : Int).toNat
theorem big_pos : 0 < big := by unfold big; decide +kernel
def greatF (ns : List Int) (i : Nat) : Int := ((cellF ns i).natAbs : Int) % big
def seedF (ns : List Int) (i : Nat) : Int := greatF ns i % 2305843009213693921 * 61 + 6473 * (i : Nat) + 31 * b2i (decide (cellF ns i < 0)) + 89
def vatF (ns : List Int) (i : Nat) : Vt := (max 0 (greatF ns i - 10 ^ (16 : Int).toNat), seedF ns i % 2305843009213693951, 0)
def oneF (v : Vt) : Int := (v.2.1 + 67867979 * (v.2.2 + 1)) % 2305843009213693951
def twoF (v : Vt) : Int := (oneF v * oneF v + 49979687) % 2305843009213693907 * 86028121 + oneF v + 23 * (v.2.2 + 1)
def drawF (v : Vt) (t : Int) : Int × Vt := if 0 < v.1 then (v.1 % t, (v.1 / t, v.2.1, v.2.2)) else (twoF v / 65537 % t, (v.1, v.2.1, v.2.2 + 1))
theorem draw_nn (v : Vt) {t : Int} (h : 0 < t) : 0 ≤ (drawF v t).1 := by
  unfold drawF; split <;> exact Int.emod_nonneg _ (by omega)
theorem draw_lt (v : Vt) {t : Int} (h : 0 < t) : (drawF v t).1 < t := by
  unfold drawF; split <;> exact Int.emod_lt_of_pos _ h
def gDrawF (ss : List Sl) (S : List Dat) (r : Dat) (S' : List Dat) : Prop := ∃ (k : Nat) (v : Vt) (t : Int), ss = [.c k, .d (.int t)] ∧ S[k]? = some (vatD v) ∧ 0 < t ∧ t < 2 ^ 100 ∧ r = .int (drawF v t).1 ∧ S' = S.set k (vatD (drawF v t).2)
section
variable {P : Program} {w : World} {K : PySem.W.Frag} {mg : Str → Option Value} {base : Heap}

theorem ok__law_pail (T : Txt K mg) : FnOk P w K mg base CX0 1 T.a__law_pail T.d__law_pail ["script", "spot"] (SpN K (fun ss S r S' => gVat ss S r S' vatF)) := by
  refine T.F__law_pail.ok sc__law_pail (spn_len (k := 2) fun ss S r S' hg => ?_) (fun cdv A outer s H vs Q E hr h => ⟨_, (pss_cons (ps_set (i := 2) sc__law_pail.nd rfl (by first | exact Or.inl rfl | exact Or.inr rfl) (pe_ifExp (pt_cmpR op_lt (pv 1) (pe_callB (call_lenK K) (by rfl) T.n_len (by decide +kernel) (pa_cons (pv 0) pa_nil)) (nomark _)) (pe_callTy call_intD (by rfl) T.n_int (by decide +kernel) (pa_cons (pe_ix (ix_seqK K) (pv 0) (pv 1) (fun _ _ => rfl)) pa_nil)) (pe_op op_add (pe_op op_mul pe_int (pv 1)) pe_int))) (pss_cons (ps_set (i := 3) sc__law_pail.nd rfl (by first | exact Or.inl rfl | exact Or.inr rfl) (pe_op op_mod (pe_callB call_absD (by rfl) T.n_abs (by decide +kernel) (pa_cons (pv 2) pa_nil)) (pe_op op_powW (pe_op op_powW pe_int pe_int) pe_int))) (pss_cons (ps_set (i := 4) sc__law_pail.nd rfl (by first | exact Or.inl rfl | exact Or.inr rfl) (pe_callTy call_intD (by rfl) T.n_int (by decide +kernel) (pa_cons (pe_op op_add (pe_op op_add (pe_op op_add (pe_op op_mul (pe_op op_mod (pv 3) pe_int) pe_int) (pe_op op_mul pe_int (pv 1))) (pe_op op_mul pe_int (pe_callTy call_intD (by rfl) T.n_int (by decide +kernel) (pa_cons (pe_cmpR op_lt (pv 2) pe_int (nomark _)) pa_nil)))) pe_int) pa_nil))) (pss_one (ps_ret (pe_lst (pa_cons (pe_callB (call_max2D rfl) (by rfl) T.n_max (by decide +kernel) (pa_cons pe_int (pa_cons (pe_op op_sub (pv 3) (pe_op op_powW pe_int pe_int)) pa_nil))) (pa_cons (pe_op op_mod (pv 4) pe_int) (pa_cons pe_int pa_nil))))))))), ?_⟩)
  · obtain ⟨i, n, rfl, _⟩ := hg; rfl
  · obtain ⟨B, as, S, ss, r, S', c, rs, ⟨ns, i, rfl, rfl, rfl⟩, q⟩ := h
    have g := EnvR.start (N := ["script", "spot", "cell", "great", "seed"]) rs
    refine raw_set (x := .d (.int (cellF ns i))) (S1 := S') (ev_if (b := decide ((i : Int) < ns.length)) (S1 := S') (et_test (ev_op (ev_var rfl) (ev_cb (ea_cons (ev_var rfl) ea_nil) cd_lenS) o_lt)) (fun hh => ?_) fun hh => ?_) c g fun B1 H1 v c1 x1 g1 => ?_
    · have hlt : i < ns.length := by have := of_decide_eq_true hh; omega
      refine (ev_cb (ea_cons (ev_op (ev_var rfl) (ev_var rfl) (op2_ixS (u := ns.getD i 0) ?_)) ea_nil) cd_int).to ?_
      · rw [atI_n (by rw [List.length_map]; exact hlt), List.getElem_map, List.getD_eq_getElem?_getD, List.getElem?_eq_getElem hlt]; rfl
      · unfold cellF; rw [if_pos hlt]
    · have hlt : ¬ i < ns.length := by have := of_decide_eq_false hh; omega
      refine (ev_op (ev_op ev_int (ev_var rfl) (o_mul (cm_l (by decide) (by decide)))) ev_int o_add).to ?_
      unfold cellF; rw [if_neg hlt]
    · refine raw_set (x := .d (.int (greatF ns i))) (S1 := S') (ev_op (ev_cb (ea_cons (ev_var rfl) ea_nil) cd_abs) (ev_op (ev_op ev_int ev_int (o_powW ⟨by decide, by decide⟩)) ev_int (o_powW ⟨by decide, by decide +kernel⟩)) (o_mod big_pos)) c1 g1 fun B2 H2 v2 c2 x2 g2 => ?_
      refine raw_set (x := .d (.int (seedF ns i))) (S1 := S') (ev_cb (ea_cons (ev_op (ev_op (ev_op (ev_op (ev_op (ev_var rfl) ev_int (o_mod (by decide))) ev_int (o_mul (cm_r (by decide) (by decide)))) (ev_op ev_int (ev_var rfl) (o_mul (cm_l (by decide) (by decide)))) o_add) (ev_op ev_int (ev_cb (ea_cons (ev_op (ev_var rfl) ev_int o_lt) ea_nil) cd_intB) (o_mul (cm_l (by decide) (by decide)))) o_add) ev_int o_add) ea_nil) cd_int) c2 g2 fun B3 H3 v3 c3 x3 g3 => ?_
      refine raw_retN (ds := [.int (vatF ns i).1, .int (vatF ns i).2.1, .int (vatF ns i).2.2]) (S1 := S') (en_lst (ea_cons (ev_cb (ea_cons ev_int (ea_cons (ev_op (ev_var rfl) (ev_op ev_int ev_int (o_powW ⟨by decide, by decide⟩)) o_sub) ea_nil)) cd_max2) (ea_cons (ev_op (ev_var rfl) ev_int (o_mod (by decide))) (ea_cons ev_int ea_nil))) (by show 3 ≤ sizeLine; decide)) c3 g3 fun p B4 H4 ws c4 x4 hp hb hl r3 => q p B4 H4 ws c4 (((x1.trans x2).trans x3).trans x4) ⟨hp.1, ((x1.trans x2).trans x3).oldN hp.2⟩ hb hl r3
theorem ok__law_scooped (T : Txt K mg) : FnOk P w K mg base CX0 1 T.a__law_scooped T.d__law_scooped ["pail", "total"] (SpD K (gDrawF)) := by
  refine T.F__law_scooped.ok sc__law_scooped (spd_len (k := 2) fun ss S r S' hg => ?_) (fun cdv A outer s H vs Q E hr h => ⟨_, (pss_cons (ps_if (pt_cmpR op_gt (pe_ix (ix_seqK K) (pv 0) pe_int (fun _ _ => rfl)) pe_int (nomark _)) (pss_cons (ps_set (i := 2) sc__law_scooped.nd rfl (by first | exact Or.inl rfl | exact Or.inr rfl) (pe_op op_mod (pe_callTy call_intD (by rfl) T.n_int (by decide +kernel) (pa_cons (pe_ix (ix_seqK K) (pv 0) pe_int (fun _ _ => rfl)) pa_nil)) (pv 1))) (pss_cons (ps_asg (pe_op op_fdivW (pe_ix (ix_seqK K) (pv 0) pe_int (fun _ _ => rfl)) (pv 1)) (pg_sub (pv 0) pe_int set_list)) (pss_one (ps_ret (pv 2))))) pss_nil) (pss_cons (ps_asg (pe_op op_add (pe_ix (ix_seqK K) (pv 0) pe_int (fun _ _ => rfl)) pe_int) (pg_sub (pv 0) pe_int set_list)) (pss_cons (ps_set (i := 3) sc__law_scooped.nd rfl (by first | exact Or.inl rfl | exact Or.inr rfl) (pe_op op_mod (pe_callTy call_intD (by rfl) T.n_int (by decide +kernel) (pa_cons (pe_op op_add (pe_ix (ix_seqK K) (pv 0) pe_int (fun _ _ => rfl)) (pe_op op_mul pe_int (pe_ix (ix_seqK K) (pv 0) pe_int (fun _ _ => rfl)))) pa_nil)) pe_int)) (pss_cons (ps_set (i := 4) sc__law_scooped.nd rfl (by first | exact Or.inl rfl | exact Or.inr rfl) (pe_op op_add (pe_op op_add (pe_op op_mul (pe_op op_mod (pe_callTy call_intD (by rfl) T.n_int (by decide +kernel) (pa_cons (pe_op op_add (pe_op op_mul (pv 3) (pv 3)) pe_int) pa_nil)) pe_int) pe_int) (pv 3)) (pe_op op_mul pe_int (pe_ix (ix_seqK K) (pv 0) pe_int (fun _ _ => rfl))))) (pss_one (ps_ret (pe_op op_mod (pe_callTy call_intD (by rfl) T.n_int (by decide +kernel) (pa_cons (pe_op op_fdivW (pv 4) pe_int) pa_nil)) (pv 1)))))))), sp_body h fun ss S r S' hg => ?_⟩)
  · obtain ⟨k, v, t, rfl, _⟩ := hg; rfl
  · obtain ⟨k, v, t, rfl, hk, ht, htw, rfl, rfl⟩ := hg
    have hs : ∀ (x : Dat), (S.set k x).take S.length = S.set k x := fun x => List.take_of_length_le (by simp)
    refine sp_ifq (b := decide (0 < v.1)) (et_test (ev_op (ev_op (ev_var rfl) ev_int (op2_ix (.cell hk) rfl)) ev_int o_gt)) (fun hh => ?_) fun hh => sp_nextq ?_
    · have hp := of_decide_eq_true hh
      have e : drawF v t = (v.1 % t, (v.1 / t, v.2.1, v.2.2)) := by unfold drawF; rw [if_pos hp]
      refine sp_assoc (sp_set (ev_op (ev_cb (ea_cons (ev_op (ev_var rfl) ev_int (op2_ix (.cell hk) rfl)) ea_nil) cd_int) (ev_var rfl) (o_mod ht)) (sp_assoc (sp_setitem (j := 0) (ev_op (ev_op (ev_var rfl) ev_int (op2_ix (.cell hk) rfl)) (ev_var rfl) (o_fdivW ⟨ht, ?_⟩)) (ev_var rfl) ev_int hk rfl (sp_retq (sp_ret (ev_var rfl) ⟨by rw [e], by rw [e]; exact hs _⟩)))))
      have h2 : t.natAbs < 2 ^ 100 := by omega
      have : t.natAbs.log2 < 100 := (Nat.log2_lt (by omega)).mpr h2
      omega
    · have hp := of_decide_eq_false hh
      have e : drawF v t = (twoF v / 65537 % t, (v.1, v.2.1, v.2.2 + 1)) := by unfold drawF; rw [if_neg hp]
      have h1 : 0 ≤ oneF v ∧ oneF v < 2305843009213693951 := ⟨Int.emod_nonneg _ (by decide), Int.emod_lt_of_pos _ (by decide)⟩
      refine sp_setitem (j := 2) (ev_op (ev_op (ev_var rfl) ev_int (op2_ix (.cell hk) rfl)) ev_int o_add) (ev_var rfl) ev_int hk rfl ?_
      have hk2 := set_get (e := .lst [.int v.1, .int v.2.1, .int (v.2.2 + 1)]) hk
      refine sp_set (x := .d (.int (oneF v))) (ev_op (ev_cb (ea_cons (ev_op (ev_op (ev_var rfl) ev_int (op2_ix (.cell hk2) rfl)) (ev_op ev_int (ev_op (ev_var rfl) ev_int (op2_ix (.cell hk2) rfl)) (o_mul (cm_l (by decide) (by decide)))) o_add) ea_nil) cd_int) ev_int (o_mod (by decide))) ?_
      refine sp_set (x := .d (.int (twoF v))) (ev_op (ev_op (ev_op (ev_op (ev_cb (ea_cons (ev_op (ev_op (ev_var rfl) (ev_var rfl) (o_mul (cm_l ?_ ?_))) ev_int o_add) ea_nil) cd_int) ev_int (o_mod (by decide))) ev_int (o_mul (cm_r (by decide) (by decide)))) (ev_var rfl) o_add) (ev_op ev_int (ev_op (ev_var rfl) ev_int (op2_ix (.cell hk2) rfl)) (o_mul (cm_l (by decide) (by decide)))) o_add) ?_
      · omega
      · omega
      · exact sp_ret (ev_op (ev_cb (ea_cons (ev_op (ev_var rfl) ev_int (o_fdivW ⟨by decide, by decide⟩)) ea_nil) cd_int) (ev_var rfl) (o_mod ht)) ⟨by rw [e], by rw [e]; exact hs _⟩
theorem ok__law_any_of (T : Txt K mg) : FnOk P w K mg base CX0 2 T.a__law_any_of T.d__law_any_of ["pail", "items"] (SpE K gPick) := by
  have G__law_scooped := ok__law_scooped (P := P) (w := w) (base := base) T
  have b__law_scooped := T.b__law_scooped
  refine T.F__law_any_of.ok sc__law_any_of (spe_len (k := 2) fun ss S post hg => ?_) (fun cdv A outer s H vs Q E hr h => ⟨_, (pss_one (ps_ret (pe_ix (ix_seqK K) (pv 1) (pe_call G__law_scooped (hr.mono (by decide)) rfl T.m__law_scooped T.k__law_scooped b__law_scooped .nil pass0 (pa_cons (pv 0) (pa_cons (pe_callB (call_lenK K) (by rfl) T.n_len (by decide +kernel) (pa_cons (pv 1) pa_nil)) pa_nil))) (fun _ _ => rfl)))), sp_bodyE h fun ss S post hg => ?_⟩)
  · obtain ⟨k, v, d, ds, rfl, _⟩ := hg; rfl
  · obtain ⟨k, v, d, ds, rfl, hd, hk, hne, hl, rfl⟩ := hg
    have hp : 0 < (ds.length : Int) := by have := List.length_pos_iff.mpr hne; omega
    have hsq : ∀ {T : List Dat}, Seq T (.d d) ds := fun {T} => by
      rcases hd with rfl | rfl
      · exact .lst
      · exact .tup
    have h1 := draw_nn v hp
    have h2 := draw_lt v hp
    have hlt : (drawF v ds.length).1.toNat < ds.length := by omega
    refine sp_retE (post := fun r T => r = .d ds[(drawF v ds.length).1.toNat] ∧ T = S.set k (vatD (drawF v ds.length).2)) ((ev_op (ev_var rfl) (ev_call (ea_cons (ev_var rfl) (ea_cons (ev_cb (ea_cons (ev_var rfl) ea_nil) (cd_len hsq)) ea_nil)) ⟨k, v, ds.length, rfl, hk, hp, by omega, rfl, rfl⟩) (op2_ix hsq ?_)).e1 ⟨rfl, rfl⟩) fun r T ⟨h1, h2⟩ => ⟨_, h1, List.getElem_mem _, (drawF v ds.length).2, by rw [h2]; exact List.take_of_length_le (by simp)⟩
    have e : (drawF v ds.length).1 = ((drawF v ds.length).1.toNat : Int) := by omega
    have := atI_n hlt
    rwa [← e] at this
end
theorem szd {n : Nat} (h : n ≤ 1000) : n ≤ sizeLine := size_1000 h
theorem kn : ∀ d ∈ ([] : List Dat), KD d := fun _ h => by cases h
theorem kc {x : Dat} {xs : List Dat} (h : KD x) (t : ∀ d ∈ xs, KD d) : ∀ d ∈ x :: xs, KD d := fun d hd => by
  rcases List.mem_cons.mp hd with rfl | hd
  · exact h
  · exact t d hd
abbrev T10 : Int := 10 ^ (60 : Int).toNat
def letV : List V := [.str "fine"]
def letD : Dat := .tup [.str "fine"]
def toldV (s : Str) : List V := [.str "refused", .str s]
def toldD (s : Str) : Dat := .tup [.str "refused", .str s]
theorem rep_told (K : PySem.W.Frag) (s : Str) : RepM K (.t (toldV s)) (toldD s) := ⟨_, rfl, fun _ => .cons (.str _) (.cons (.str _) .nil)⟩
def tWord (s : String) : Addr → Value → Option Addr → TS := fun _ _ _ => tRet (tTup (tCons (tC (.str "refused")) (tCons (tC (.str (Str.ofString s))) tNil)))
def tNum (K : PySem.W.Frag) (C : Addr) (w : String) (f : Str) : Addr → Value → Option Addr → TS := fun a cls d => tRet (tTup (tCons (tC (.str "refused")) (tCons (tOp rAddS (tC (.str (Str.ofString w))) (tCB (rReprD K) (tCons (tXf a cls d C f (tVar 1)) tNil))) tNil)))
def tRef (K : PySem.W.Frag) (C : Addr) (f : Str) : Addr → Value → Option Addr → TS := fun a cls d => tRet (tTup (tCons (tC (.str "refused")) (tCons (tCB (rReprD K) (tCons (tXf a cls d C f (tVar 1)) tNil)) tNil)))
abbrev qLam (x : Str) : Str := x ++ ".<locals>." ++ "<lambda>"
theorem rep_let (K : PySem.W.Frag) : RepM K (.t letV) letD := ⟨_, rfl, fun _ => .cons (.str _) .nil⟩
/-- a word before what is shown -/
def shT (w : String) (d : Dat) : Str := Str.ofString w ++ reprD d
structure ShOk (w : String) (d : Dat) : Prop where
  pl : Pl 1 d
  sh : (py d).showable = true
  len : (reprD d).length ≤ 100
  lay : (PyData.str (shT w d)).canLay0 = true
section
variable {K : PySem.W.Frag} {mg : Str → Option Value}
def Cl (T : Txt K mg) : List Clause := [(.ref T.a_InvalidRow, none, tWord "row"), (.ref T.a_InvalidOperation, none, tWord "operation"), (.ref T.a_InvalidNumber, some 1, tNum K T.a_InvalidNumber "number " "given"), (.ref T.a_Refused, some 1, tRef K T.a_Refused "reason")]
def tFine : TE := tTup (tCons (tC (.str "fine")) tNil)
abbrev ZR : Dat := .tup [.str "zero"]
inductive RS (T : Txt K mg) : Hp → Addr → Option (Str × V) → MR → Prop
  | row {H : Hp} : RS T H T.a_InvalidRow none (.t (toldV "row"))
  | op {H : Hp} : RS T H T.a_InvalidOperation none (.t (toldV "operation"))
  | num {H : Hp} {v : V} {d : Dat} (o : ShOk "number " d) (h : Rep K H v d) : RS T H T.a_InvalidNumber (some ("given", v)) (.t (toldV (shT "number " d)))
  | zero {H : Hp} {v : V} {d : Dat} (o : ShOk "" d) (h : Rep K H v d) : RS T H T.a_Refused (some ("reason", v)) (.t (toldV (reprD d)))
theorem word_run {s : String} {Q : VK} {te0 : TE} {a : Addr} {cls : Value} {d : Option Addr} {σ : L2.St} {H : Hp} (q : Ret (.t (toldV (Str.ofString s))) H Q) : suiteRun (Dm te0 Q) none (tWord s a cls d) a σ H := ⟨by show 2 ≤ sizeLine; decide, q⟩
theorem num_run {w : String} {f : Str} {C : Addr} {v : V} {x : Dat} {Q : VK} {te0 : TE} {a : Addr} {d : Option Addr} {σ : L2.St} {H : Hp} (hw : (Str.ofString w).length ≤ 100) (o : ShOk w x) (hv : Rep K H v x) (pv : PayV H d (some (f, v))) (hs : σ.length = 2) (q : Ret (.t (toldV (shT w x))) H Q) :
    suiteRun (Dm te0 Q) (some 1) (tNum K C w f a (.ref C) d) a σ H := by
  obtain ⟨dd, rfl, hdd⟩ := pv
  refine ⟨.ref a, ?_, rfl, rfl, dd, _, v, rfl, hdd, by simp [List.lookup], v, py x, rfl, o.pl.dp v hv, ⟨o.pl.lay.1, o.sh, Nat.le_trans o.pl.lay.2 (by decide), Nat.le_trans o.len (szd (by decide))⟩, ?_⟩
  · show (σ.set 1 (some (V.ref a)))[1]? = _
    exact List.getElem?_set_self (by omega)
  · refine ⟨Str.ofString w, reprD x, rfl, rfl, ?_, by show 2 ≤ sizeLine; decide, q⟩
    exact szd (by have := o.len; omega)
theorem ref_run {f : Str} {C : Addr} {v : V} {x : Dat} {Q : VK} {te0 : TE} {a : Addr} {d : Option Addr} {σ : L2.St} {H : Hp} (o : ShOk "" x) (hv : Rep K H v x) (pv : PayV H d (some (f, v))) (hs : σ.length = 2) (q : Ret (.t (toldV (reprD x))) H Q) :
    suiteRun (Dm te0 Q) (some 1) (tRef K C f a (.ref C) d) a σ H := by
  obtain ⟨dd, rfl, hdd⟩ := pv
  refine ⟨.ref a, ?_, rfl, rfl, dd, _, v, rfl, hdd, by simp [List.lookup], v, py x, rfl, o.pl.dp v hv, ⟨o.pl.lay.1, o.sh, Nat.le_trans o.pl.lay.2 (by decide), Nat.le_trans o.len (szd (by decide))⟩, ?_⟩
  · show (σ.set 1 (some (V.ref a)))[1]? = _
    exact List.getElem?_set_self (by omega)
  · exact ⟨by show 2 ≤ sizeLine; decide, q⟩
theorem met_ok (T : Txt K mg) : MetOkH (TMet K (Cl T) tFine (.t letV) 2) (.t letV) (RS T) := by
  refine ⟨fun tl H Q h => ⟨EMetH (RS T) Q, fun cls d σ H' hE hl => ?_, h⟩⟩
  obtain ⟨C, p, r, rfl, hr, pv, q⟩ := hE
  cases hr with
  | row => exact ⟨true, T.em_InvalidRow_InvalidRow, fun _ a ha => word_run q, (fun z => nomatch z)⟩
  | op => exact ⟨false, T.em_InvalidOperation_InvalidRow, (fun z => nomatch z), fun _ => ⟨true, T.em_InvalidOperation_InvalidOperation, fun _ a ha => word_run q, (fun z => nomatch z)⟩⟩
  | @num v x o hv =>
    exact ⟨false, T.em_InvalidNumber_InvalidRow, (fun z => nomatch z), fun _ => ⟨false, T.em_InvalidNumber_InvalidOperation, (fun z => nomatch z), fun _ => ⟨true, T.em_InvalidNumber_InvalidNumber, fun _ a ha => num_run (by decide +kernel) o hv pv (by omega) q, (fun z => nomatch z)⟩⟩⟩
  | @zero v x o hv =>
    exact ⟨false, T.em_Refused_InvalidRow, (fun z => nomatch z), fun _ => ⟨false, T.em_Refused_InvalidOperation, (fun z => nomatch z), fun _ => ⟨false, T.em_Refused_InvalidNumber, (fun z => nomatch z), fun _ => ⟨true, T.em_Refused_Refused, fun _ a ha => ref_run o hv pv (by omega) q, (fun z => nomatch z)⟩⟩⟩⟩
end
theorem lam__law_met {X : Cx} {T : Txt X.K X.mg} {c P : Addr} {k : Nat} {params : Arguments} {body : Expr} {scope : Scope} {t : XK → TE} {p lpos pos : Pos} {tabs : List (Addr × Str)} (hmT : (P, X.env.qual ++ "<lambda>") ∈ tabs) (hu : ∀ p ∈ tabs, p.1 = P → p.2 = X.env.qual ++ "<lambda>") (hcm : Calm X.A)
    (TB : LamX.TabB X.base X.mg c P) (hcode : X.env.code = .ref c) (hr : Room (k + 2) X.A) (hg : Gl X "_law_met") (L : LamX.LamS X.env.scope scope) (hdef : defaultsOf params X.env = ([], []))
    (hbind : ∀ (q : Str) (cl : List (Str × Addr)) (pm cv ctv : Value), bindArgs (PySem.W.kla_fn "<lambda>" q params body scope cl pm cv ctv) ⟨[], []⟩ = pure [])
    (hbody : ∀ (A : Around) (outer : List Env) (s : Shared) (H : Hp) (E : XK) (f c' : Addr), Room k (A.deeper (LamX.lamEnv X scope s.heap.objs.size f c')) → PE (LamX.lamCx X A outer s H E scope f c') body (t E)) :
    PE X (.Call (.Name "_law_met" p) [.Lambda params body scope lpos] [] pos) (LamX.tLam tabs (TMet X.K (Cl T) tFine (.t letV) 2) t) := by
  obtain ⟨oc, od, kV, doc, pm, an, cdv, ct, osl, e, lk, hc⟩ := T.F__law_met.ex
  have hb := T.b__law_met
  rw [e] at lk hb
  have hz : X.A.units + 16 * (k + 2) + 200 < cLine := hr.un
  refine LamX.pe_lamcall hg T.m__law_met T.k__law_met lk hc hb sc__law_met rfl (Or.inl rfl) (met_gives (fun s H => ?_) (fun s H => ?_) (fun _ => rfl) fun _ _ _ => ?_) TB hcode hmT hu hr L hdef hbind hbody
  · refine .bare ⟨rfl, by decide, .inl T.m_InvalidRow⟩ (fun a oe cls d pn hz hf => pss_one (ps_ret (pe_tup (pa_cons pe_str (pa_cons pe_str pa_nil))))) ?_
    refine .bare ⟨rfl, by decide, .inl T.m_InvalidOperation⟩ (fun a oe cls d pn hz hf => pss_one (ps_ret (pe_tup (pa_cons pe_str (pa_cons pe_str pa_nil))))) ?_
    refine .named (m := "error") ⟨rfl, by decide, .inl T.m_InvalidNumber⟩ (by show (["call", "error"] : List Str).Nodup; decide) rfl rfl (fun a oe cls d pn hz' hf => pss_one (ps_ret (pe_tup (pa_cons pe_str (pa_cons (pe_op op_addS pe_str (pe_callB (call_reprD X.K hcm ?_) (by rfl) T.n_repr (by decide +kernel) (pa_cons (pe_xf T.xf_InvalidNumber T.nf_InvalidNumber hz' hf (pv 1)) pa_nil))) pa_nil))))) ?_
    · show X.A.units + 3 + 64 < cLine
      omega
    refine .named (m := "error") ⟨rfl, by decide, .inl T.m_Refused⟩ (by show (["call", "error"] : List Str).Nodup; decide) rfl rfl (fun a oe cls d pn hz' hf => pss_one (ps_ret (pe_tup (pa_cons pe_str (pa_cons (pe_callB (call_reprD X.K hcm ?_) (by rfl) T.n_repr (by decide +kernel) (pa_cons (pe_xf T.xf_Refused T.nf_Refused hz' hf (pv 1)) pa_nil)) pa_nil))))) .nil
    show X.A.units + 3 + 64 < cLine
    omega
  · exact pe_tup (pa_cons pe_str pa_nil)
  · exact ⟨fun h => h.2, fun h => ⟨by show 1 ≤ sizeLine; decide, h⟩⟩
section
variable {P : Program} {w : World} {K : PySem.W.Frag} {mg : Str → Option Value} {base : Heap}
def tabs (T : Txt K mg) : List (Addr × Str) := [(T.P__law_right, qLam "_law_right"), (T.P_law, qLam "law")]
theorem pne2 (T : Txt K mg) : T.P__law_right ≠ T.P_law := fun e => by
  have := T.pne
  rw [e] at this
  simp at this
theorem tm1 (T : Txt K mg) : (T.P__law_right, qLam "_law_right") ∈ tabs T := List.mem_cons_self
theorem tm0 (T : Txt K mg) : (T.P_law, qLam "law") ∈ tabs T := List.mem_cons_of_mem _ List.mem_cons_self
theorem tu1 (T : Txt K mg) : ∀ p ∈ tabs T, p.1 = T.P__law_right → p.2 = qLam "_law_right" := fun p hp e => by
  rcases List.mem_cons.mp hp with rfl | hp
  · rfl
  · rw [List.mem_singleton.mp hp] at e
    exact absurd e.symm (pne2 T)
theorem tu0 (T : Txt K mg) : ∀ p ∈ tabs T, p.1 = T.P_law → p.2 = qLam "law" := fun p hp e => by
  rcases List.mem_cons.mp hp with rfl | hp
  · exact absurd e (pne2 T)
  · rw [List.mem_singleton.mp hp]
def Mrd (L : List Addr) (G : List Sl → List Dat → Out → List Dat → Prop) : Addr → Option Sp := fun f => if f ∈ L then some (SpR K G) else none
theorem mrd {L : List Addr} {G : List Sl → List Dat → Out → List Dat → Prop} {f : Addr} {i : Nat} (h : L[i]? = some f) : Mrd (K := K) L G f = some (SpR K G) := if_pos (List.mem_of_getElem? h)
theorem held1 (T : Txt K mg) : ∀ f sp, Mrd (K := K) [T.a_plus, T.a_less, T.a_dot] (gPRx T.a_InvalidRow T.a_InvalidOperation) f = some sp → HeldX P w K mg base 5 f sp := fun f sp h => by
  unfold Mrd at h
  split at h
  · rename_i hf
    cases h
    simp only [List.mem_cons, List.not_mem_nil, or_false] at hf
    rcases hf with rfl | rfl | rfl
    · refine ⟨_, _, (ok_plus T).imp fun vs H Q E h => ?_, T.k_plus, T.b_plus⟩
      obtain ⟨B, as, S, ss, o, S', c, r, g, q⟩ := h
      exact ⟨B, as, S, ss, o, S', c, r, .inl g, q⟩
    · exact ⟨_, _, ok_less T, T.k_less, T.b_less⟩
    · exact ⟨_, _, ok_dot T, T.k_dot, T.b_dot⟩
  · cases h
theorem held2 (T : Txt K mg) : ∀ f sp, Mrd (K := K) [T.a_determinant, T.a_rank, T.a_basis, T.a_kernel] (gRx (fun v => asrB v 400 16) T.a_InvalidRow) f = some sp → HeldX P w K mg base 5 f sp := fun f sp h => by
  unfold Mrd at h
  split at h
  · rename_i hf
    cases h
    simp only [List.mem_cons, List.not_mem_nil, or_false] at hf
    rcases hf with rfl | rfl | rfl | rfl
    · refine ⟨_, _, (ok_determinant T).imp fun vs H Q E h => ?_, T.k_determinant, T.b_determinant⟩
      obtain ⟨B, as, S, ss, o, S', c, r, g, q⟩ := h
      exact ⟨B, as, S, ss, o, S', c, r, .inl g, q⟩
    · refine ⟨_, _, (ok_rank T).imp fun vs H Q E h => ?_, T.k_rank, T.b_rank⟩
      obtain ⟨B, as, S, ss, o, S', c, r, g, q⟩ := h
      exact ⟨B, as, S, ss, o, S', c, r, .inl g, q⟩
    · exact ⟨_, _, ok_basis T, T.k_basis, T.b_basis⟩
    · exact ⟨_, _, ok_kernel T, T.k_kernel, T.b_kernel⟩
  · cases h
theorem held3 (T : Txt K mg) : ∀ f sp, Mrd (K := K) [T.a_parts_or_form, T.a_whole_or_test] (gGLx T.a_InvalidRow T.a_InvalidOperation) f = some sp → HeldX P w K mg base 5 f sp := fun f sp h => by
  unfold Mrd at h
  split at h
  · rename_i hf
    cases h
    simp only [List.mem_cons, List.not_mem_nil, or_false] at hf
    rcases hf with rfl | rfl
    · exact ⟨_, _, ok_parts_or_form T, T.k_parts_or_form, T.b_parts_or_form⟩
    · exact ⟨_, _, ok_whole_or_test T, T.k_whole_or_test, T.b_whole_or_test⟩
  · cases h
theorem held4 (T : Txt K mg) : ∀ f sp, Mrd (K := K) [T.a_is_parts_or_form, T.a_is_whole_or_test] (gGL3 T.a_InvalidRow T.a_InvalidOperation) f = some sp → HeldX P w K mg base 5 f sp := fun f sp h => by
  unfold Mrd at h
  split at h
  · rename_i hf
    cases h
    simp only [List.mem_cons, List.not_mem_nil, or_false] at hf
    rcases hf with rfl | rfl
    · refine ⟨_, _, (ok_is_parts_or_form T).imp fun vs H Q E h => ?_, T.k_is_parts_or_form, T.b_is_parts_or_form⟩
      obtain ⟨B, as, S, ss, o, S', c, r, g, q⟩ := h
      exact ⟨B, as, S, ss, o, S', c, r, .inl g, q⟩
    · refine ⟨_, _, (ok_is_whole_or_test T).imp fun vs H Q E h => ?_, T.k_is_whole_or_test, T.b_is_whole_or_test⟩
      obtain ⟨B, as, S, ss, o, S', c, r, g, q⟩ := h
      exact ⟨B, as, S, ss, o, S', c, r, .inl g, q⟩
  · cases h
end
theorem at_same {T : List (Addr × Str)} {S S' : List Dat} (h : AllTabs T S) (e : ∀ (k : Nat) (P : Addr) (q : Str), S'[k]? = some (Dat.tab P q) ↔ S[k]? = some (Dat.tab P q)) : AllTabs T S' :=
  ⟨fun p hp => (h.1 p hp).imp fun k hk => (e k _ _).mpr hk, fun k P q hk => h.2 k P q ((e k P q).mp hk)⟩
theorem at_setl {T : List (Addr × Str)} {S : List Dat} {j : Nat} {xs ys : List Dat} (h : AllTabs T S) (hj : S[j]? = some (.lst ys)) : AllTabs T (S.set j (.lst xs)) := at_same h fun k P q => by
  by_cases hk : j = k
  · subst hk
    rw [hj, List.getElem?_set_self (List.getElem?_eq_some_iff.mp hj).1]
    exact ⟨fun z => (by cases z), fun z => (by cases z)⟩
  · rw [List.getElem?_set_ne hk]
theorem at_app {T : List (Addr × Str)} {S : List Dat} {xs : List Dat} (h : AllTabs T S) : AllTabs T (S ++ [.lst xs]) := at_same h fun k P q => by
  rcases Nat.lt_or_ge k S.length with hk | hk
  · rw [List.getElem?_append_left hk]
  · rw [List.getElem?_append_right hk, List.getElem?_eq_none hk]
    refine ⟨fun z => ?_, fun z => (by cases z)⟩
    rcases Nat.eq_or_lt_of_le hk with e | e
    · rw [e, Nat.sub_self] at z; cases z
    · rw [List.getElem?_eq_none (by simp; omega)] at z; cases z
theorem get_app {S : List Dat} {v : Dat} : (S ++ [v])[S.length]? = some v := by simp
theorem set_app {S : List Dat} {v w : Dat} : (S ++ [v]).set S.length w = S ++ [w] := by simp
theorem take_app {S : List Dat} {v : Dat} : (S ++ [v]).take S.length = S := List.take_left ..

section
variable {K : PySem.W.Frag} {tl tm : TE} {env : Env1} {S T0 ds : List Dat} {k j n : Nat} {v : Vt} {E : XK} {p : Dat → Prop} {u : TS} {P : Post} {d : Dat}
theorem sp_env {env' : Env1} (e : env = env') (q : SP K n u env' S P) : SP K n u env S P := e ▸ q
theorem sp_env_S {S' : List Dat} (e : S = S') (q : SP K n u env S' P) : SP K n u env S P := e ▸ q
theorem ev_met0 {tl' : XK → TE} {TT : (XK → Hp → VK → Prop) → Hp → VK → Prop} {r0 : MR} {res : Hp → Addr → Option (Str × V) → MR → Prop} {T : List (Addr × Str)} {C : Addr} {r : MR} {S1 : List Dat} (M : MetOkH TT r0 res) (hT : AllTabs T S) (h : ∀ E, EvX K E (tl' E) env S C none S1) (hr : RepM K r d) (hres : ∀ H : Hp, res H C none r) : Ev K (LamX.tLam T TT tl') env S (.d d) S1 := ev_metHX M hT h hr hres
theorem ev_met1 {tl' : XK → TE} {TT : (XK → Hp → VK → Prop) → Hp → VK → Prop} {r0 : MR} {res : Hp → Addr → Option (Str × V) → MR → Prop} {T : List (Addr × Str)} {C : Addr} {r : MR} {S1 : List Dat} {f : Str} {x : Dat} (M : MetOkH TT r0 res) (hT : AllTabs T S) (h : ∀ E, EvX K E (tl' E) env S C (some (f, x)) S1) (hr : RepM K r d) (hres : ∀ (H : Hp) (v : V), Rep K H v x → res H C (some (f, v)) r) : Ev K (LamX.tLam T TT tl') env S (.d d) S1 := ev_metHX M hT h hr hres
theorem eve_pick (hT : ∃ u, T0 = S.set k (vatD u)) (hk : T0[k]? = some (vatD v)) (hj : env[j]? = some (some (.c k))) (hl : Ev K tl env T0 (.d (.lst ds)) T0) (hne : ds ≠ []) (hz : ds.length ≤ 1000) (hp : ∀ d ∈ ds, p d) :
    EvE K (tCall (SpE K gPick) [] E (tCons (tVar j) (tCons tl tNil))) env T0 (fun r T => ∃ d, r = .d d ∧ p d ∧ ∃ v', T = S.set k (vatD v')) :=
  eve_callA (ea_cons (ev_var hj) (ea_cons hl ea_nil)) ⟨k, v, .lst ds, ds, rfl, .inl rfl, hk, hne, by omega, rfl⟩ fun r T ⟨h1, v', h2⟩ => ⟨r, rfl, hp r h1, v', by
    obtain ⟨u, hu⟩ := hT
    rw [h2, hu, List.set_set]⟩
theorem sp_tell6 (he : env[6]? = some (some (.c S.length))) (hm : Ev K tm env (S ++ [.lst ds]) (.d d) (S ++ [.lst ds])) (hl : ds.length < 100) (q : SP K n u env (S ++ [.lst (ds ++ [d])]) P) :
    SP K n (tSeq (tDrop (tBM K "list" rAppend (tVar 6) (tCons tm tNil))) u) env (S ++ [.lst ds]) P :=
  sp_drop ((ev_append (ds := ds) (ev_var he) hm ⟨_, get_app⟩ get_app (Nat.lt_of_lt_of_le hl (szd (Nat.le_of_ble_eq_true rfl)))).toS set_app) q
end
end N03

set_option Elab.async false
set_option linter.all false
set_option maxRecDepth 100000
set_option maxHeartbeats 4000000
namespace N03
open PySem PySem.Spec PyProof.Rows L2 RW

theorem kd_rep {x : Dat} {k : Int} (h : KD x) (hk : k.toNat ≤ 1000) : KD (.tup (List.replicate k.toNat [x]).flatten) := by
  rw [rep_flatP]
  exact .tup (fun d hd => by rw [List.eq_of_mem_replicate hd]; exact h) (by rw [List.length_replicate]; exact hk)
abbrev Z (n : Int) : Dat := .tup (List.replicate n.toNat [Dat.int 0]).flatten
theorem z_kd {n : Int} (h : n.toNat ≤ 1000) : KD (Z n) := kd_rep (.int 0) h
abbrev REP17 : Dat := Z 17
abbrev REP16 : Dat := Z 16
abbrev REP401 : Dat := .tup (List.replicate (401 : Int).toNat [Dat.tup [.int 1]]).flatten
theorem rep17_kd : KD REP17 := z_kd (by decide)
theorem rep16_kd : KD REP16 := z_kd (by decide)
theorem rep401_kd : KD REP401 := kd_rep (by (repeat (first | exact kn | (refine kc ?_ ?_) | assumption | exact KD.non | exact KD.bl _ | exact KD.int _ | exact KD.str _ | exact KD.dd | refine KD.tup ?_ (Nat.le_of_ble_eq_true rfl) | refine KD.lst ?_ (Nat.le_of_ble_eq_true rfl)))) (by decide)
theorem rep_row (n : Nat) (x : Int) : Dat.tup (List.replicate n [Dat.int x]).flatten = rowD (List.replicate n x) := by
  show _ = Dat.tup ((List.replicate n x).map Dat.int)
  rw [rep_flatP, List.map_replicate]
def NONES : List Dat := [.non, .int 0, .tup [], .lst [.int 1, .int 2], .tup [.int 1, .bl true], .tup [.int 1, .str "2"], .tup [.int 1, .int T10], .tup [.tup [.int 1, .int 2]], REP17, .str "row", .dd, .tup [.non]]
def BADS : List Dat := [.non, .int 5, .tup [], .lst [.tup [.int 1, .int 2]], .tup [.int 1, .int 2], .tup [.tup [.int 1, .int 2], .tup [.int 1]], .tup [.tup [.int 1, .int 2], .lst [.int 3, .int 4]], .tup [.tup [.int 1, .int 2], .tup [.int 1, .non]], .tup [.tup []], .str "rows", .dd, REP401]
def ODDS : List Dat := [.non, .bl true, .str "1", .tup [.int 1], .int T10, .int (0 - T10), .lst []]
def OTHS : List Dat := [.tup [.int 1], .tup [.int 1, .int 2, .int 3], REP16]
def VALS : List Dat := [.non, .tup [], .int 0, .str "parts", .dd, .tup [.str "parts"], .tup [.str "form", .int 5], .tup [.str "test", .tup [.int 0, .int 0]], .tup [.str "whole", .non], .tup [.int 1, .int 2]]
theorem nones_kd : ∀ d ∈ NONES, KD d := by
  have h := rep17_kd
  unfold NONES
  (repeat (first | exact kn | (refine kc ?_ ?_) | assumption | exact KD.non | exact KD.bl _ | exact KD.int _ | exact KD.str _ | exact KD.dd | refine KD.tup ?_ (Nat.le_of_ble_eq_true rfl) | refine KD.lst ?_ (Nat.le_of_ble_eq_true rfl)))
theorem nones_no : ∀ d ∈ NONES, srB d 1 16 = false := by
  unfold NONES
  simp only [List.forall_mem_cons]
  refine ⟨?_, ?_, ?_, ?_, ?_, ?_, ?_, ?_, ?_, ?_, ?_, ?_, fun _ h => by cases h⟩ <;> decide +kernel
theorem bads_kd : ∀ d ∈ BADS, KD d := by
  have h := rep401_kd
  unfold BADS
  (repeat (first | exact kn | (refine kc ?_ ?_) | assumption | exact KD.non | exact KD.bl _ | exact KD.int _ | exact KD.str _ | exact KD.dd | refine KD.tup ?_ (Nat.le_of_ble_eq_true rfl) | refine KD.lst ?_ (Nat.le_of_ble_eq_true rfl)))
theorem bads_no : ∀ d ∈ BADS, asrB d 400 16 = false := by
  unfold BADS
  simp only [List.forall_mem_cons]
  refine ⟨?_, ?_, ?_, ?_, ?_, ?_, ?_, ?_, ?_, ?_, ?_, ?_, fun _ h => by cases h⟩ <;> decide +kernel
theorem odds_kd : ∀ d ∈ ODDS, KD d := by
  unfold ODDS
  (repeat (first | exact kn | (refine kc ?_ ?_) | assumption | exact KD.non | exact KD.bl _ | exact KD.int _ | exact KD.str _ | exact KD.dd | refine KD.tup ?_ (Nat.le_of_ble_eq_true rfl) | refine KD.lst ?_ (Nat.le_of_ble_eq_true rfl)))
theorem odds_no : ∀ d ∈ ODDS, shD d = false := by
  unfold ODDS
  simp only [List.forall_mem_cons]
  refine ⟨?_, ?_, ?_, ?_, ?_, ?_, ?_, fun _ h => by cases h⟩ <;> decide +kernel
theorem odds_sh : ∀ d ∈ ODDS, ShOk "number " d := by
  have z : ∀ i : Int, ∀ d ∈ [Dat.int i], Pl 0 d := fun i d hd => by rw [List.mem_singleton.mp hd]; exact .int i
  unfold ODDS
  simp only [List.forall_mem_cons]
  refine ⟨⟨.non, ?_, ?_, ?_⟩, ⟨.bl _, ?_, ?_, ?_⟩, ⟨.str ?_, ?_, ?_, ?_⟩, ⟨.tup (z 1), ?_, ?_, ?_⟩, ⟨.int _, ?_, ?_, ?_⟩, ⟨.int _, ?_, ?_, ?_⟩, ⟨.lst (m := 0) (fun _ h => by cases h), ?_, ?_, ?_⟩, fun _ h => by cases h⟩ <;> decide +kernel
theorem zr_sh : ShOk "" ZR := ⟨.tup (fun d hd => by rw [List.mem_singleton.mp hd]; exact .str (by decide +kernel)), by decide +kernel, by decide +kernel, by decide +kernel⟩
theorem zr_is : reprD ZR = Str.ofString "('zero',)" := by decide +kernel
theorem oths_kd : ∀ d ∈ OTHS, KD d := by
  have h := rep16_kd
  unfold OTHS
  (repeat (first | exact kn | (refine kc ?_ ?_) | assumption | exact KD.non | exact KD.bl _ | exact KD.int _ | exact KD.str _ | exact KD.dd | refine KD.tup ?_ (Nat.le_of_ble_eq_true rfl) | refine KD.lst ?_ (Nat.le_of_ble_eq_true rfl)))
theorem oths_ok : ∀ d ∈ OTHS, srB d 1 16 = true ∧ decide (2 = lenD d) = false := by
  unfold OTHS
  simp only [List.forall_mem_cons]
  refine ⟨?_, ?_, ?_, fun _ h => by cases h⟩ <;> decide +kernel
theorem vals_odd : ∀ d ∈ VALS, OddV d := by
  have no : ∀ {d : Dat}, isTupD d = false → ∀ x xs, d = .tup (x :: xs) → Pl 0 x := fun {d} h x xs e => by rw [e] at h; cases h
  have st : ∀ {s : Str} {xs : List Dat}, (PyData.str s).canLay0 = true → ∀ x ys, Dat.tup (.str s :: xs) = .tup (x :: ys) → Pl 0 x := fun {s xs} h x ys e => by cases e; exact .str h
  unfold VALS
  simp only [List.forall_mem_cons]
  refine ⟨⟨.non, no rfl, ?_, ?_, ?_, ?_⟩, ⟨by (repeat (first | exact kn | (refine kc ?_ ?_) | assumption | exact KD.non | exact KD.bl _ | exact KD.int _ | exact KD.str _ | exact KD.dd | refine KD.tup ?_ (Nat.le_of_ble_eq_true rfl) | refine KD.lst ?_ (Nat.le_of_ble_eq_true rfl))), (fun x xs e => by cases e), ?_, ?_, ?_, ?_⟩, ⟨.int _, no rfl, ?_, ?_, ?_, ?_⟩, ⟨.str _, no rfl, ?_, ?_, ?_, ?_⟩, ⟨.dd, no rfl, ?_, ?_, ?_, ?_⟩, ⟨by (repeat (first | exact kn | (refine kc ?_ ?_) | assumption | exact KD.non | exact KD.bl _ | exact KD.int _ | exact KD.str _ | exact KD.dd | refine KD.tup ?_ (Nat.le_of_ble_eq_true rfl) | refine KD.lst ?_ (Nat.le_of_ble_eq_true rfl))), st lay_p, ?_, ?_, ?_, ?_⟩, ⟨by (repeat (first | exact kn | (refine kc ?_ ?_) | assumption | exact KD.non | exact KD.bl _ | exact KD.int _ | exact KD.str _ | exact KD.dd | refine KD.tup ?_ (Nat.le_of_ble_eq_true rfl) | refine KD.lst ?_ (Nat.le_of_ble_eq_true rfl))), st lay_f, ?_, ?_, ?_, ?_⟩, ⟨by (repeat (first | exact kn | (refine kc ?_ ?_) | assumption | exact KD.non | exact KD.bl _ | exact KD.int _ | exact KD.str _ | exact KD.dd | refine KD.tup ?_ (Nat.le_of_ble_eq_true rfl) | refine KD.lst ?_ (Nat.le_of_ble_eq_true rfl))), st lay_t, ?_, ?_, ?_, ?_⟩, ⟨by (repeat (first | exact kn | (refine kc ?_ ?_) | assumption | exact KD.non | exact KD.bl _ | exact KD.int _ | exact KD.str _ | exact KD.dd | refine KD.tup ?_ (Nat.le_of_ble_eq_true rfl) | refine KD.lst ?_ (Nat.le_of_ble_eq_true rfl))), st lay_w, ?_, ?_, ?_, ?_⟩, ⟨by (repeat (first | exact kn | (refine kc ?_ ?_) | assumption | exact KD.non | exact KD.bl _ | exact KD.int _ | exact KD.str _ | exact KD.dd | refine KD.tup ?_ (Nat.le_of_ble_eq_true rfl) | refine KD.lst ?_ (Nat.le_of_ble_eq_true rfl))), (fun x xs e => by cases e; exact .int _), ?_, ?_, ?_, ?_⟩, fun _ h => by cases h⟩ <;> decide +kernel
section
variable {CR CO : Addr} {no bad oth x : Dat}
theorem r2_ok : srB ROW2 1 16 = true := by decide +kernel
theorem rs2_ok : asrB ROWS2 400 16 = true := by decide +kernel
theorem xN (h : srB no 1 16 = false) : outPR CR CO no x = .exc CR Option.none := by unfold outPR; rw [h]; rfl
theorem xON (h : srB no 1 16 = false) : outPR CR CO ROW2 no = .exc CR Option.none := by unfold outPR; rw [r2_ok, h]; rfl
theorem xTN (h1 : srB oth 1 16 = true) (h : srB no 1 16 = false) : outPR CR CO oth no = .exc CR Option.none := by unfold outPR; rw [h1, h]; rfl
theorem xOT (h : srB oth 1 16 = true ∧ decide (2 = lenD oth) = false) : outPR CR CO ROW2 oth = .exc CO Option.none := by
  unfold outPR
  rw [r2_ok, h.1, show decide (lenD ROW2 = lenD oth) = false from h.2]; rfl
theorem gB1 (h : asrB bad 400 16 = false) : outGL CR CO bad x = .exc CR Option.none := by unfold outGL; rw [h]; rfl
theorem gRN (h : srB no 1 16 = false) : outGL CR CO ROWS2 no = .exc CR Option.none := by unfold outGL; rw [rs2_ok, h]; rfl
theorem gRT (h : srB oth 1 16 = true ∧ decide (2 = lenD oth) = false) : outGL CR CO ROWS2 oth = .exc CO Option.none := by
  unfold outGL
  rw [rs2_ok, h.1, show decide (lenR ROWS2 = lenD oth) = false from h.2]; rfl
end
abbrev D1 : Dat := .tup [.tup [.int 1, .int 2]]
abbrev D2 : Dat := .tup [.tup [.int 1], .tup [.int 2]]
theorem d1_kd : KD D1 := by (repeat (first | exact kn | (refine kc ?_ ?_) | assumption | exact KD.non | exact KD.bl _ | exact KD.int _ | exact KD.str _ | exact KD.dd | refine KD.tup ?_ (Nat.le_of_ble_eq_true rfl) | refine KD.lst ?_ (Nat.le_of_ble_eq_true rfl)))
theorem d2_kd : KD D2 := by (repeat (first | exact kn | (refine kc ?_ ?_) | assumption | exact KD.non | exact KD.bl _ | exact KD.int _ | exact KD.str _ | exact KD.dd | refine KD.tup ?_ (Nat.le_of_ble_eq_true rfl) | refine KD.lst ?_ (Nat.le_of_ble_eq_true rfl)))
theorem d1_ok : asrB D1 400 16 = true := by decide +kernel
theorem d2_ok : asrB D2 400 16 = true := by decide +kernel
abbrev RRRO : List Str := [Str.ofString "row", Str.ofString "row", Str.ofString "row", Str.ofString "operation"]
abbrev RRO : List Str := [Str.ofString "row", Str.ofString "row", Str.ofString "operation"]
def W1 (i : Nat) : List Str := (List.replicate i RRRO).flatten
def W2 (d : Dat) (i : Nat) : List Str := W1 3 ++ [Str.ofString "row", shT "number " d, Str.ofString "row", Str.ofString "row", reprD ZR] ++ List.replicate i (Str.ofString "row")
def W3 (d : Dat) (i : Nat) : List Str := W2 d 4 ++ [Str.ofString "operation", Str.ofString "operation"] ++ (List.replicate i RRO).flatten
def W4 (d : Dat) (i : Nat) : List Str := W3 d 2 ++ (List.replicate i RRO).flatten
theorem fl_next {α : Type} (xs : List α) (i : Nat) : (List.replicate (i + 1) xs).flatten = (List.replicate i xs).flatten ++ xs := by
  rw [List.replicate_succ', List.flatten_append]; simp
theorem fl_len {α : Type} (xs : List α) : ∀ i, (List.replicate i xs).flatten.length = i * xs.length
  | 0 => by simp
  | i + 1 => by rw [fl_next, List.length_append, fl_len xs i, Nat.add_mul]; simp
theorem w1_len (i : Nat) : (W1 i).length = i * 4 := fl_len _ i
theorem w2_len (d : Dat) (i : Nat) : (W2 d i).length = 17 + i := by unfold W2; rw [List.length_append, List.length_append, w1_len, List.length_replicate]; rfl
theorem w3_len (d : Dat) (i : Nat) : (W3 d i).length = 23 + i * 3 := by unfold W3; rw [List.length_append, List.length_append, w2_len, fl_len]; rfl
theorem w4_len (d : Dat) (i : Nat) : (W4 d i).length = 29 + i * 3 := by unfold W4; rw [List.length_append, w3_len, fl_len]; rfl
theorem w1_next (i : Nat) : W1 (i + 1) = (((W1 i ++ [Str.ofString "row"]) ++ [Str.ofString "row"]) ++ [Str.ofString "row"]) ++ [Str.ofString "operation"] := by
  unfold W1; rw [fl_next]; simp
theorem w2_next (d : Dat) (i : Nat) : W2 d (i + 1) = W2 d i ++ [Str.ofString "row"] := by
  unfold W2; rw [List.replicate_succ']; simp
theorem w3_next (d : Dat) (i : Nat) : W3 d (i + 1) = ((W3 d i ++ [Str.ofString "row"]) ++ [Str.ofString "row"]) ++ [Str.ofString "operation"] := by
  unfold W3; rw [fl_next]; simp
theorem w4_next (d : Dat) (i : Nat) : W4 d (i + 1) = ((W4 d i ++ [Str.ofString "row"]) ++ [Str.ofString "row"]) ++ [Str.ofString "operation"] := by
  unfold W4; rw [fl_next]; simp
theorem lay_row : (PyData.str "row").canLay0 = true := by decide +kernel
theorem lay_op : (PyData.str "operation").canLay0 = true := by decide +kernel
theorem w4_lay {d : Dat} (h : (PyData.str (shT "number " d)).canLay0 = true) : ∀ s ∈ W4 d 2, (PyData.str s).canLay0 = true := fun s hs => by
  have hz : (PyData.str (reprD ZR)).canLay0 = true := by decide +kernel
  have e : ∀ i, ∀ s ∈ (List.replicate i RRO).flatten, (PyData.str s).canLay0 = true := fun i s hs => by
    obtain ⟨l, hl, hs⟩ := List.mem_flatten.mp hs
    rw [List.eq_of_mem_replicate hl] at hs
    simp only [List.mem_cons, List.not_mem_nil, or_false] at hs
    rcases hs with rfl | rfl | rfl
    · exact lay_row
    · exact lay_row
    · exact lay_op
  have e1 : ∀ s ∈ W1 3, (PyData.str s).canLay0 = true := fun s hs => by
    obtain ⟨l, hl, hs⟩ := List.mem_flatten.mp hs
    rw [List.eq_of_mem_replicate hl] at hs
    simp only [List.mem_cons, List.not_mem_nil, or_false] at hs
    rcases hs with rfl | rfl | rfl | rfl
    · exact lay_row
    · exact lay_row
    · exact lay_row
    · exact lay_op
  unfold W4 W3 W2 at hs
  simp only [List.mem_append] at hs
  rcases hs with ((((hs | hs) | hs) | hs) | hs) | hs
  · exact e1 s hs
  · simp only [List.mem_cons, List.not_mem_nil, or_false] at hs
    rcases hs with rfl | rfl | rfl | rfl | rfl
    · exact lay_row
    · exact h
    · exact lay_row
    · exact lay_row
    · exact hz
  · rw [List.eq_of_mem_replicate hs]; exact lay_row
  · simp only [List.mem_cons, List.not_mem_nil, or_false] at hs
    rcases hs with rfl | rfl <;> exact lay_op
  · exact e 2 s hs
  · exact e 2 s hs
theorem pl_told {s : Str} (h : (PyData.str s).canLay0 = true) : Pl 1 (toldD s) := .tup fun d hd => by
  simp only [List.mem_cons, List.not_mem_nil, or_false] at hd
  rcases hd with rfl | rfl
  · exact .str (by decide +kernel)
  · exact .str h
theorem pl_all {d : Dat} (h : (PyData.str (shT "number " d)).canLay0 = true) : Pl 2 (.lst ((W4 d 2).map toldD)) := .lst fun x hx => by
  obtain ⟨s, hs, rfl⟩ := List.mem_map.mp hx
  exact pl_told (w4_lay h s hs)
theorem map_snoc {α β : Type} (f : α → β) (xs : List α) (x : α) : (xs ++ [x]).map f = xs.map f ++ [f x] := by rw [List.map_append]; rfl
section
variable {A G : List Dat} {x y : Dat} {m : Nat}
theorem mid_get : (A ++ (x :: G))[A.length]? = some x := by simp
theorem mid_set : (A ++ (x :: G)).set A.length y = A ++ (y :: G) := by simp
theorem mid_get2 : (A ++ (x :: G))[A.length + 1 + m]? = G[m]? := by
  rw [List.getElem?_append_right (by omega), show A.length + 1 + m - A.length = m + 1 by omega]; rfl
theorem mid_set2 : (A ++ (x :: G)).set (A.length + 1 + m) y = A ++ (x :: G.set m y) := by
  rw [List.set_append_right _ _ (by omega), show A.length + 1 + m - A.length = m + 1 by omega]; rfl
theorem mid_len : (A ++ (x :: G)).length = A.length + 1 + G.length := by simp; omega
theorem mid_push : A ++ (x :: G) ++ [y] = A ++ (x :: (G ++ [y])) := by simp
end
theorem at_mid {T : List (Addr × Str)} {A G xs ys : List _} (h : AllTabs T (A ++ (Dat.lst xs :: G))) : AllTabs T (A ++ (Dat.lst ys :: G)) := by
  have := at_setl (xs := ys) h mid_get
  rwa [mid_set] at this
theorem at_mid2 {T : List (Addr × Str)} {A G xs ys : List _} {x : Dat} {m : Nat} (h : AllTabs T (A ++ (x :: G))) (hm : G[m]? = some (Dat.lst xs)) : AllTabs T (A ++ (x :: G.set m (.lst ys))) := by
  have := at_setl (xs := ys) h (show (A ++ (x :: G))[A.length + 1 + m]? = some (.lst xs) from mid_get2.trans hm)
  rwa [mid_set2] at this
section
variable {K : PySem.W.Frag} {env : Env1} {S ds : List Dat} {d : Dat} {i k n : Nat} {tm : TE} {u : TS} {P : Post} {G : List Dat}
theorem ev_big : Ev K (tOp (rI CPowW fun i j => V.int (i ^ j.toNat)) (tC (.int 10)) (tC (.int 60))) env S (.d (.int T10)) S := ev_op ev_int ev_int (o_powW ⟨by decide, by decide⟩)
theorem ev_z {n : Int} (h1 : 1 ≤ n) (h2 : n ≤ 1000) : Ev K (tOp (RwT.rRepA K) (tTup (tCons (tC (.int 0)) tNil)) (tC (.int n))) env S (.d (Z n)) S :=
  ev_op (ev_tup (ds := [.int 0]) (ea_cons ev_int ea_nil) (szd (Nat.le_of_ble_eq_true rfl))) ev_int (o_repA (by simp) h1 h2 (Nat.le_of_ble_eq_true rfl))
theorem sp_tellM (he : env[i]? = some (some (.c S.length))) (hm : Ev K tm env (S ++ (.lst ds :: G)) (.d d) (S ++ (.lst ds :: G))) (hl : ds.length < 100) (q : SP K n u env (S ++ (.lst (ds ++ [d]) :: G)) P) :
    SP K n (tSeq (tDrop (tBM K "list" rAppend (tVar i) (tCons tm tNil))) u) env (S ++ (.lst ds :: G)) P :=
  sp_drop ((ev_append (ds := ds) (ev_var he) hm ⟨_, mid_get⟩ mid_get (Nat.lt_of_lt_of_le hl (szd (Nat.le_of_ble_eq_true rfl)))).toS mid_set) q
theorem evx_prim {v v5 : Vt} {CR CF : Addr} {E : XK} {S4 : List Dat} (hv5 : (drawF v 16).2 = v5) (hk4 : S4[k]? = some (vatD v)) (hkl : k < S4.length) (he : env[0]? = some (some (.c k))) (n0 : 0 ≤ (drawF v 16).1) (n1 : (drawF v 16).1 < 16) {xs : Dat} :
    EvX K E (tCall (SpR K (gPrim CR CF)) [] E (tCons (tOp (RwT.rRepA K) (tTup (tCons (tC (.int 0)) tNil)) (tOp (rI0 fun i j => V.int (i + j)) (tC (.int 1)) (tCall (SpD K gDrawF) [] E0 (tCons (tVar 0) (tCons (tC (.int 16)) tNil))))) tNil)) env (S4 ++ [xs]) CF (some ("reason", ZR)) (S4.set k (vatD v5) ++ [xs]) := by
  have hs : (S4 ++ [xs]).set k (vatD (drawF v 16).2) = S4.set k (vatD v5) ++ [xs] := by rw [hv5]; exact List.set_append_left _ _ hkl
  have hg : (S4 ++ [xs])[k]? = some (vatD v) := by rw [List.getElem?_append_left hkl]; exact hk4
  refine ev_callX (S1 := S4.set k (vatD v5) ++ [xs]) (ea_cons (Ev.to (ev_op (ev_tup (ds := [.int 0]) (ea_cons ev_int ea_nil) (szd (Nat.le_of_ble_eq_true rfl))) (ev_op ev_int (ev_call (ea_cons (ev_var he) (ea_cons ev_int ea_nil)) ⟨k, v, 16, rfl, hg, by decide, by decide, rfl, hs.symm⟩) o_add) (o_repA (by simp) (by omega) (by omega) (Nat.le_of_ble_eq_true rfl))) (congrArg Sl.d (rep_row _ 0))) ea_nil) (.inr ⟨_, rfl, by omega, by omega, rfl, rfl⟩)
def gRight {mg : Str → Option Value} (T : Txt K mg) (ss : List Sl) (S : List Dat) (post : Dat → List Dat → Prop) : Prop := ∃ (k : Nat) (v : Vt), ss = [.c k] ∧ S[k]? = some (vatD v) ∧ AllTabs (tabs T) S ∧ post = fun r T => r = .bl true ∧ ∃ v', T = S.set k (vatD v')
end
section
variable {P : Program} {w : World} {K : PySem.W.Frag} {mg : Str → Option Value} {base : Heap}

theorem ok__law_right (T : Txt K mg) (TB : LamX.TabB base mg T.c__law_right T.P__law_right) : FnG P w K mg base CX0 8 T.a__law_right T.d__law_right ["pail"] (SpE K (gRight T)) := by
  have G__law_any_of := ok__law_any_of (P := P) (w := w) (base := base) T
  have b__law_any_of := T.b__law_any_of
  have G_multiple := ok_multiple (P := P) (w := w) (base := base) T
  have b_multiple := T.b_multiple
  have G_content := ok_content (P := P) (w := w) (base := base) T
  have b_content := T.b_content
  have G_primitive := ok_primitive (P := P) (w := w) (base := base) T
  have b_primitive := T.b_primitive
  have G__law_scooped := ok__law_scooped (P := P) (w := w) (base := base) T
  have b__law_scooped := T.b__law_scooped
  have G_determinant := ok_determinant (P := P) (w := w) (base := base) T
  have b_determinant := T.b_determinant
  have G_is_row := ok_is_row (P := P) (w := w) (base := base) T
  have b_is_row := T.b_is_row
  have G_are_rows := ok_are_rows (P := P) (w := w) (base := base) T
  have b_are_rows := T.b_are_rows
  have G_is_parts_or_form := ok_is_parts_or_form (P := P) (w := w) (base := base) T
  have b_is_parts_or_form := T.b_is_parts_or_form
  have G_is_whole_or_test := ok_is_whole_or_test (P := P) (w := w) (base := base) T
  have b_is_whole_or_test := T.b_is_whole_or_test
  have HM1 := held1 (P := P) (w := w) (base := base) T
  have HM2 := held2 (P := P) (w := w) (base := base) T
  have HM3 := held3 (P := P) (w := w) (base := base) T
  have HM4 := held4 (P := P) (w := w) (base := base) T
  obtain ⟨oc0, od0, kV0, doc0, pm0, an0, ct0, osl0, ed0, lk0, hc0⟩ := T.lk__law_right
  rw [ed0] at lk0 ⊢
  refine fng_body lk0 hc0 sc__law_right (spe_len (k := 1) fun ss S post hg => ?_) (fun A outer s H vs Q E hcm hr h => ?_)
  · obtain ⟨k, v, rfl, _⟩ := hg; rfl
  · have hcode : (cxOf CX0 P w K mg base ["pail", "none", "bad", "odd", "one", "rows", "other", "met_v", "due", "call", "word", "value"] "_law_right" (defScope s__law_right) T.a__law_right (.ref T.c__law_right) A outer s H E).nox.env.code = .ref T.c__law_right := rfl
    refine ⟨_, PSs.nox (pss_cons (ps_set (i := 1) sc__law_right.nd rfl (by first | exact Or.inl rfl | exact Or.inr rfl) (pe_call G__law_any_of (hr.mono (by decide)) rfl T.m__law_any_of T.k__law_any_of b__law_any_of .nil pass0 (pa_cons (pv 0) (pa_cons (pe_lst (pa_cons pe_non (pa_cons pe_int (pa_cons (pe_tup pa_nil) (pa_cons (pe_lst (pa_cons pe_int (pa_cons pe_int pa_nil))) (pa_cons (pe_tup (pa_cons pe_int (pa_cons pe_bl pa_nil))) (pa_cons (pe_tup (pa_cons pe_int (pa_cons pe_str pa_nil))) (pa_cons (pe_tup (pa_cons pe_int (pa_cons (pe_op op_powW pe_int pe_int) pa_nil))) (pa_cons (pe_tup (pa_cons (pe_tup (pa_cons pe_int (pa_cons pe_int pa_nil))) pa_nil)) (pa_cons (pe_op (op_rpAK K) (pe_tup (pa_cons pe_int pa_nil)) pe_int) (pa_cons pe_str (pa_cons pe_dnewT (pa_cons (pe_tup (pa_cons pe_non pa_nil)) pa_nil))))))))))))) pa_nil)))) (pss_cons (ps_set (i := 2) sc__law_right.nd rfl (by first | exact Or.inl rfl | exact Or.inr rfl) (pe_lst (pa_cons pe_non (pa_cons pe_int (pa_cons (pe_tup pa_nil) (pa_cons (pe_lst (pa_cons (pe_tup (pa_cons pe_int (pa_cons pe_int pa_nil))) pa_nil)) (pa_cons (pe_tup (pa_cons pe_int (pa_cons pe_int pa_nil))) (pa_cons (pe_tup (pa_cons (pe_tup (pa_cons pe_int (pa_cons pe_int pa_nil))) (pa_cons (pe_tup (pa_cons pe_int pa_nil)) pa_nil))) (pa_cons (pe_tup (pa_cons (pe_tup (pa_cons pe_int (pa_cons pe_int pa_nil))) (pa_cons (pe_lst (pa_cons pe_int (pa_cons pe_int pa_nil))) pa_nil))) (pa_cons (pe_tup (pa_cons (pe_tup (pa_cons pe_int (pa_cons pe_int pa_nil))) (pa_cons (pe_tup (pa_cons pe_int (pa_cons pe_non pa_nil))) pa_nil))) (pa_cons (pe_tup (pa_cons (pe_tup pa_nil) pa_nil)) (pa_cons pe_str (pa_cons pe_dnewT (pa_cons (pe_op (op_rpAK K) (pe_tup (pa_cons (pe_tup (pa_cons pe_int pa_nil)) pa_nil)) pe_int) pa_nil)))))))))))))) (pss_cons (ps_asg (pe_tup (pa_cons (pe_call G__law_any_of (hr.mono (by decide)) rfl T.m__law_any_of T.k__law_any_of b__law_any_of .nil pass0 (pa_cons (pv 0) (pa_cons (pv 2) pa_nil))) (pa_cons (pe_call G__law_any_of (hr.mono (by decide)) rfl T.m__law_any_of T.k__law_any_of b__law_any_of .nil pass0 (pa_cons (pv 0) (pa_cons (pe_lst (pa_cons pe_non (pa_cons pe_bl (pa_cons pe_str (pa_cons (pe_tup (pa_cons pe_int pa_nil)) (pa_cons (pe_op op_powW pe_int pe_int) (pa_cons (pe_op op_sub pe_int (pe_op op_powW pe_int pe_int)) (pa_cons (pe_lst pa_nil) pa_nil)))))))) pa_nil))) pa_nil))) (pg_tup rfl (pgs_cons (pg_name (i := 2) sc__law_right.nd rfl (by first | exact Or.inl rfl | exact Or.inr rfl)) (pgs_cons (pg_name (i := 3) sc__law_right.nd rfl (by first | exact Or.inl rfl | exact Or.inr rfl)) pgs_nil)))) (pss_cons (ps_asg (pe_tup (pa_cons (pe_tup (pa_cons pe_int (pa_cons (pe_un un_neg pe_int) pa_nil))) (pa_cons (pe_tup (pa_cons (pe_tup (pa_cons pe_int (pa_cons pe_int pa_nil))) (pa_cons (pe_tup (pa_cons pe_int (pa_cons pe_int pa_nil))) pa_nil))) pa_nil))) (pg_tup rfl (pgs_cons (pg_name (i := 4) sc__law_right.nd rfl (by first | exact Or.inl rfl | exact Or.inr rfl)) (pgs_cons (pg_name (i := 5) sc__law_right.nd rfl (by first | exact Or.inl rfl | exact Or.inr rfl)) pgs_nil)))) (pss_cons (ps_set (i := 6) sc__law_right.nd rfl (by first | exact Or.inl rfl | exact Or.inr rfl) (pe_call G__law_any_of (hr.mono (by decide)) rfl T.m__law_any_of T.k__law_any_of b__law_any_of .nil pass0 (pa_cons (pv 0) (pa_cons (pe_lst (pa_cons (pe_tup (pa_cons pe_int pa_nil)) (pa_cons (pe_tup (pa_cons pe_int (pa_cons pe_int (pa_cons pe_int pa_nil)))) (pa_cons (pe_op (op_rpAK K) (pe_tup (pa_cons pe_int pa_nil)) pe_int) pa_nil)))) pa_nil)))) (pss_cons (ps_par (i := 7) (j := 8) rfl sc__law_right.nd rfl rfl (by decide) rfl rfl (pa_cons (pe_lst pa_nil) (pa_cons (pe_lst pa_nil) pa_nil)) (by rfl)) (pss_cons (ps_for PassesOwn.never rfl (pi_seqK K (pe_tup (pa_cons (pe_glob (v := .ref T.a_plus) rfl T.m_plus rfl) (pa_cons (pe_glob (v := .ref T.a_less) rfl T.m_less rfl) (pa_cons (pe_glob (v := .ref T.a_dot) rfl T.m_dot rfl) pa_nil))))) (pg_name (i := 9) sc__law_right.nd rfl (by first | exact Or.inl rfl | exact Or.inr rfl)) (pss_cons (ps_expr (pe_bm PySem.F.plainAttrs_list PySem.F.slot_list_append PySem.F.type_list_append mt_append (pv 7) (pa_cons (lam__law_met (T := T) (k := 5) (tm1 T) (tu1 T) hcm TB hcode (hr.mono (by decide)) rfl (LamX.lamS_by (sc := defScope s__law_right) (by decide +kernel)) rfl (fun _ _ _ _ _ => rfl) (fun A2 outer2 s2 H2 E2 f2 c2 hr2 => (pe_callLX (i := 9) HM1 (hr2.mono (by decide)) (passR (takes_of rfl rfl rfl rfl)) (pa_cons (pv 1) (pa_cons (pv 1) pa_nil))))) pa_nil))) (pss_cons (ps_expr (pe_bm PySem.F.plainAttrs_list PySem.F.slot_list_append PySem.F.type_list_append mt_append (pv 7) (pa_cons (lam__law_met (T := T) (k := 5) (tm1 T) (tu1 T) hcm TB hcode (hr.mono (by decide)) rfl (LamX.lamS_by (sc := defScope s__law_right) (by decide +kernel)) rfl (fun _ _ _ _ _ => rfl) (fun A2 outer2 s2 H2 E2 f2 c2 hr2 => (pe_callLX (i := 9) HM1 (hr2.mono (by decide)) (passR (takes_of rfl rfl rfl rfl)) (pa_cons (pv 4) (pa_cons (pv 1) pa_nil))))) pa_nil))) (pss_cons (ps_expr (pe_bm PySem.F.plainAttrs_list PySem.F.slot_list_append PySem.F.type_list_append mt_append (pv 7) (pa_cons (lam__law_met (T := T) (k := 5) (tm1 T) (tu1 T) hcm TB hcode (hr.mono (by decide)) rfl (LamX.lamS_by (sc := defScope s__law_right) (by decide +kernel)) rfl (fun _ _ _ _ _ => rfl) (fun A2 outer2 s2 H2 E2 f2 c2 hr2 => (pe_callLX (i := 9) HM1 (hr2.mono (by decide)) (passR (takes_of rfl rfl rfl rfl)) (pa_cons (pv 6) (pa_cons (pv 1) pa_nil))))) pa_nil))) (pss_cons (ps_expr (pe_bm PySem.F.plainAttrs_list PySem.F.slot_list_append PySem.F.type_list_append mt_append (pv 7) (pa_cons (lam__law_met (T := T) (k := 5) (tm1 T) (tu1 T) hcm TB hcode (hr.mono (by decide)) rfl (LamX.lamS_by (sc := defScope s__law_right) (by decide +kernel)) rfl (fun _ _ _ _ _ => rfl) (fun A2 outer2 s2 H2 E2 f2 c2 hr2 => (pe_callLX (i := 9) HM1 (hr2.mono (by decide)) (passR (takes_of rfl rfl rfl rfl)) (pa_cons (pv 4) (pa_cons (pv 6) pa_nil))))) pa_nil))) (pss_one (ps_set (i := 8) sc__law_right.nd rfl (by first | exact Or.inl rfl | exact Or.inr rfl) (pe_op op_cat (pv 8) (pe_lst (pa_cons pe_str (pa_cons pe_str (pa_cons pe_str (pa_cons pe_str pa_nil))))))))))))) (pss_cons (ps_expr (pe_bm PySem.F.plainAttrs_list PySem.F.slot_list_append PySem.F.type_list_append mt_append (pv 7) (pa_cons (lam__law_met (T := T) (k := 5) (tm1 T) (tu1 T) hcm TB hcode (hr.mono (by decide)) rfl (LamX.lamS_by (sc := defScope s__law_right) (by decide +kernel)) rfl (fun _ _ _ _ _ => rfl) (fun A2 outer2 s2 H2 E2 f2 c2 hr2 => (pe_call G_multiple (hr2.mono (by decide)) rfl T.m_multiple T.k_multiple b_multiple .nil (passR (takes_of rfl rfl rfl rfl)) (pa_cons (pv 1) (pa_cons (pv 3) pa_nil))))) pa_nil))) (pss_cons (ps_expr (pe_bm PySem.F.plainAttrs_list PySem.F.slot_list_append PySem.F.type_list_append mt_append (pv 7) (pa_cons (lam__law_met (T := T) (k := 5) (tm1 T) (tu1 T) hcm TB hcode (hr.mono (by decide)) rfl (LamX.lamS_by (sc := defScope s__law_right) (by decide +kernel)) rfl (fun _ _ _ _ _ => rfl) (fun A2 outer2 s2 H2 E2 f2 c2 hr2 => (pe_call G_multiple (hr2.mono (by decide)) rfl T.m_multiple T.k_multiple b_multiple .nil (passR (takes_of rfl rfl rfl rfl)) (pa_cons (pv 4) (pa_cons (pv 3) pa_nil))))) pa_nil))) (pss_cons (ps_expr (pe_bm PySem.F.plainAttrs_list PySem.F.slot_list_append PySem.F.type_list_append mt_append (pv 7) (pa_cons (lam__law_met (T := T) (k := 5) (tm1 T) (tu1 T) hcm TB hcode (hr.mono (by decide)) rfl (LamX.lamS_by (sc := defScope s__law_right) (by decide +kernel)) rfl (fun _ _ _ _ _ => rfl) (fun A2 outer2 s2 H2 E2 f2 c2 hr2 => (pe_call G_content (hr2.mono (by decide)) rfl T.m_content T.k_content b_content .nil (passR (takes_of rfl rfl rfl rfl)) (pa_cons (pv 1) pa_nil)))) pa_nil))) (pss_cons (ps_expr (pe_bm PySem.F.plainAttrs_list PySem.F.slot_list_append PySem.F.type_list_append mt_append (pv 7) (pa_cons (lam__law_met (T := T) (k := 5) (tm1 T) (tu1 T) hcm TB hcode (hr.mono (by decide)) rfl (LamX.lamS_by (sc := defScope s__law_right) (by decide +kernel)) rfl (fun _ _ _ _ _ => rfl) (fun A2 outer2 s2 H2 E2 f2 c2 hr2 => (pe_call G_primitive (hr2.mono (by decide)) rfl T.m_primitive T.k_primitive b_primitive .nil (passR (takes_of rfl rfl rfl rfl)) (pa_cons (pv 1) pa_nil)))) pa_nil))) (pss_cons (ps_expr (pe_bm PySem.F.plainAttrs_list PySem.F.slot_list_append PySem.F.type_list_append mt_append (pv 7) (pa_cons (lam__law_met (T := T) (k := 5) (tm1 T) (tu1 T) hcm TB hcode (hr.mono (by decide)) rfl (LamX.lamS_by (sc := defScope s__law_right) (by decide +kernel)) rfl (fun _ _ _ _ _ => rfl) (fun A2 outer2 s2 H2 E2 f2 c2 hr2 => (pe_call G_primitive (hr2.mono (by decide)) rfl T.m_primitive T.k_primitive b_primitive .nil (passR (takes_of rfl rfl rfl rfl)) (pa_cons (pe_op (op_rpAK K) (pe_tup (pa_cons pe_int pa_nil)) (pe_op op_add pe_int (pe_call G__law_scooped (hr2.mono (by decide)) rfl T.m__law_scooped T.k__law_scooped b__law_scooped .nil pass0 (pa_cons (pv 0) (pa_cons pe_int pa_nil))))) pa_nil)))) pa_nil))) (pss_cons (ps_set (i := 8) sc__law_right.nd rfl (by first | exact Or.inl rfl | exact Or.inr rfl) (pe_op op_cat (pv 8) (pe_lst (pa_cons pe_str (pa_cons (pe_op op_addS pe_str (pe_callB (call_reprD K hcm hr.units) (by rfl) T.n_repr (by decide +kernel) (pa_cons (pv 3) pa_nil))) (pa_cons pe_str (pa_cons pe_str (pa_cons pe_str pa_nil)))))))) (pss_cons (ps_for PassesOwn.never rfl (pi_seqK K (pe_tup (pa_cons (pe_glob (v := .ref T.a_determinant) rfl T.m_determinant rfl) (pa_cons (pe_glob (v := .ref T.a_rank) rfl T.m_rank rfl) (pa_cons (pe_glob (v := .ref T.a_basis) rfl T.m_basis rfl) (pa_cons (pe_glob (v := .ref T.a_kernel) rfl T.m_kernel rfl) pa_nil)))))) (pg_name (i := 9) sc__law_right.nd rfl (by first | exact Or.inl rfl | exact Or.inr rfl)) (pss_cons (ps_expr (pe_bm PySem.F.plainAttrs_list PySem.F.slot_list_append PySem.F.type_list_append mt_append (pv 7) (pa_cons (lam__law_met (T := T) (k := 5) (tm1 T) (tu1 T) hcm TB hcode (hr.mono (by decide)) rfl (LamX.lamS_by (sc := defScope s__law_right) (by decide +kernel)) rfl (fun _ _ _ _ _ => rfl) (fun A2 outer2 s2 H2 E2 f2 c2 hr2 => (pe_callLX (i := 9) HM2 (hr2.mono (by decide)) (passR (takes_of rfl rfl rfl rfl)) (pa_cons (pv 2) pa_nil)))) pa_nil))) (pss_one (ps_expr (pe_bm PySem.F.plainAttrs_list PySem.F.slot_list_append PySem.F.type_list_append mt_append (pv 8) (pa_cons pe_str pa_nil)))))) (pss_cons (ps_expr (pe_bm PySem.F.plainAttrs_list PySem.F.slot_list_append PySem.F.type_list_append mt_append (pv 7) (pa_cons (lam__law_met (T := T) (k := 5) (tm1 T) (tu1 T) hcm TB hcode (hr.mono (by decide)) rfl (LamX.lamS_by (sc := defScope s__law_right) (by decide +kernel)) rfl (fun _ _ _ _ _ => rfl) (fun A2 outer2 s2 H2 E2 f2 c2 hr2 => (pe_call G_determinant (hr2.mono (by decide)) rfl T.m_determinant T.k_determinant b_determinant .nil (passR (takes_of rfl rfl rfl rfl)) (pa_cons (pe_tup (pa_cons (pe_tup (pa_cons pe_int (pa_cons pe_int pa_nil))) pa_nil)) pa_nil)))) pa_nil))) (pss_cons (ps_expr (pe_bm PySem.F.plainAttrs_list PySem.F.slot_list_append PySem.F.type_list_append mt_append (pv 7) (pa_cons (lam__law_met (T := T) (k := 5) (tm1 T) (tu1 T) hcm TB hcode (hr.mono (by decide)) rfl (LamX.lamS_by (sc := defScope s__law_right) (by decide +kernel)) rfl (fun _ _ _ _ _ => rfl) (fun A2 outer2 s2 H2 E2 f2 c2 hr2 => (pe_call G_determinant (hr2.mono (by decide)) rfl T.m_determinant T.k_determinant b_determinant .nil (passR (takes_of rfl rfl rfl rfl)) (pa_cons (pe_tup (pa_cons (pe_tup (pa_cons pe_int pa_nil)) (pa_cons (pe_tup (pa_cons pe_int pa_nil)) pa_nil))) pa_nil)))) pa_nil))) (pss_cons (ps_set (i := 8) sc__law_right.nd rfl (by first | exact Or.inl rfl | exact Or.inr rfl) (pe_op op_cat (pv 8) (pe_lst (pa_cons pe_str (pa_cons pe_str pa_nil))))) (pss_cons (ps_for PassesOwn.never rfl (pi_seqK K (pe_tup (pa_cons (pe_glob (v := .ref T.a_parts_or_form) rfl T.m_parts_or_form rfl) (pa_cons (pe_glob (v := .ref T.a_whole_or_test) rfl T.m_whole_or_test rfl) pa_nil)))) (pg_name (i := 9) sc__law_right.nd rfl (by first | exact Or.inl rfl | exact Or.inr rfl)) (pss_cons (ps_expr (pe_bm PySem.F.plainAttrs_list PySem.F.slot_list_append PySem.F.type_list_append mt_append (pv 7) (pa_cons (lam__law_met (T := T) (k := 5) (tm1 T) (tu1 T) hcm TB hcode (hr.mono (by decide)) rfl (LamX.lamS_by (sc := defScope s__law_right) (by decide +kernel)) rfl (fun _ _ _ _ _ => rfl) (fun A2 outer2 s2 H2 E2 f2 c2 hr2 => (pe_callLX (i := 9) HM3 (hr2.mono (by decide)) (passR (takes_of rfl rfl rfl rfl)) (pa_cons (pv 2) (pa_cons (pv 1) pa_nil))))) pa_nil))) (pss_cons (ps_expr (pe_bm PySem.F.plainAttrs_list PySem.F.slot_list_append PySem.F.type_list_append mt_append (pv 7) (pa_cons (lam__law_met (T := T) (k := 5) (tm1 T) (tu1 T) hcm TB hcode (hr.mono (by decide)) rfl (LamX.lamS_by (sc := defScope s__law_right) (by decide +kernel)) rfl (fun _ _ _ _ _ => rfl) (fun A2 outer2 s2 H2 E2 f2 c2 hr2 => (pe_callLX (i := 9) HM3 (hr2.mono (by decide)) (passR (takes_of rfl rfl rfl rfl)) (pa_cons (pv 5) (pa_cons (pv 1) pa_nil))))) pa_nil))) (pss_cons (ps_expr (pe_bm PySem.F.plainAttrs_list PySem.F.slot_list_append PySem.F.type_list_append mt_append (pv 7) (pa_cons (lam__law_met (T := T) (k := 5) (tm1 T) (tu1 T) hcm TB hcode (hr.mono (by decide)) rfl (LamX.lamS_by (sc := defScope s__law_right) (by decide +kernel)) rfl (fun _ _ _ _ _ => rfl) (fun A2 outer2 s2 H2 E2 f2 c2 hr2 => (pe_callLX (i := 9) HM3 (hr2.mono (by decide)) (passR (takes_of rfl rfl rfl rfl)) (pa_cons (pv 5) (pa_cons (pv 6) pa_nil))))) pa_nil))) (pss_one (ps_set (i := 8) sc__law_right.nd rfl (by first | exact Or.inl rfl | exact Or.inr rfl) (pe_op op_cat (pv 8) (pe_lst (pa_cons pe_str (pa_cons pe_str (pa_cons pe_str pa_nil))))))))))) (pss_cons (ps_for PassesOwn.never rfl (pi_seqK K (pe_tup (pa_cons (pe_glob (v := .ref T.a_is_parts_or_form) rfl T.m_is_parts_or_form rfl) (pa_cons (pe_glob (v := .ref T.a_is_whole_or_test) rfl T.m_is_whole_or_test rfl) pa_nil)))) (pg_name (i := 9) sc__law_right.nd rfl (by first | exact Or.inl rfl | exact Or.inr rfl)) (pss_cons (ps_expr (pe_bm PySem.F.plainAttrs_list PySem.F.slot_list_append PySem.F.type_list_append mt_append (pv 7) (pa_cons (lam__law_met (T := T) (k := 5) (tm1 T) (tu1 T) hcm TB hcode (hr.mono (by decide)) rfl (LamX.lamS_by (sc := defScope s__law_right) (by decide +kernel)) rfl (fun _ _ _ _ _ => rfl) (fun A2 outer2 s2 H2 E2 f2 c2 hr2 => (pe_callLX (i := 9) HM4 (hr2.mono (by decide)) (passR (takes_of rfl rfl rfl rfl)) (pa_cons (pv 2) (pa_cons (pv 1) (pa_cons pe_non pa_nil)))))) pa_nil))) (pss_cons (ps_expr (pe_bm PySem.F.plainAttrs_list PySem.F.slot_list_append PySem.F.type_list_append mt_append (pv 7) (pa_cons (lam__law_met (T := T) (k := 5) (tm1 T) (tu1 T) hcm TB hcode (hr.mono (by decide)) rfl (LamX.lamS_by (sc := defScope s__law_right) (by decide +kernel)) rfl (fun _ _ _ _ _ => rfl) (fun A2 outer2 s2 H2 E2 f2 c2 hr2 => (pe_callLX (i := 9) HM4 (hr2.mono (by decide)) (passR (takes_of rfl rfl rfl rfl)) (pa_cons (pv 5) (pa_cons (pv 1) (pa_cons pe_non pa_nil)))))) pa_nil))) (pss_cons (ps_expr (pe_bm PySem.F.plainAttrs_list PySem.F.slot_list_append PySem.F.type_list_append mt_append (pv 7) (pa_cons (lam__law_met (T := T) (k := 5) (tm1 T) (tu1 T) hcm TB hcode (hr.mono (by decide)) rfl (LamX.lamS_by (sc := defScope s__law_right) (by decide +kernel)) rfl (fun _ _ _ _ _ => rfl) (fun A2 outer2 s2 H2 E2 f2 c2 hr2 => (pe_callLX (i := 9) HM4 (hr2.mono (by decide)) (passR (takes_of rfl rfl rfl rfl)) (pa_cons (pv 5) (pa_cons (pv 6) (pa_cons pe_non pa_nil)))))) pa_nil))) (pss_one (ps_set (i := 8) sc__law_right.nd rfl (by first | exact Or.inl rfl | exact Or.inr rfl) (pe_op op_cat (pv 8) (pe_lst (pa_cons pe_str (pa_cons pe_str (pa_cons pe_str pa_nil))))))))))) (pss_cons (ps_if (PW.pt (pw_or (pt_cmpR (op_neDK K hr.units) (pv 7) (pe_lc (own := [("word", 10)]) rfl sc__law_right.nd (pi_seqK K (pv 8)) (blkOk_by (own := [("word", 10)]) (N := ["pail", "none", "bad", "odd", "one", "rows", "other", "met_v", "due", "call", "word", "value"]) (sc := (defScope s__law_right)) (by decide +kernel)) (fun _ _ _ _ _ => (pg_name (i := 10) sc__law_right.nd rfl (by first | exact Or.inl rfl | exact Or.inr rfl))) (fun _ _ _ _ _ => pts_nil) (fun _ _ _ _ _ => (pe_tup (pa_cons pe_str (pa_cons (pv 10) pa_nil))))) (nomark _)) (pw_or (pt_truK K (pe_call G_is_row (hr.mono (by decide)) rfl T.m_is_row T.k_is_row b_is_row .nil pass0 (pa_cons (pv 1) pa_nil))) (pw_or1 (pt_truK K (pe_call G_are_rows (hr.mono (by decide)) rfl T.m_are_rows T.k_are_rows b_are_rows .nil pass0 (pa_cons (pv 2) pa_nil))))))) (pss_one (ps_ret pe_bl)) pss_nil) (pss_cons (ps_set (i := 11) sc__law_right.nd rfl (by first | exact Or.inl rfl | exact Or.inr rfl) (pe_call G__law_any_of (hr.mono (by decide)) rfl T.m__law_any_of T.k__law_any_of b__law_any_of .nil pass0 (pa_cons (pv 0) (pa_cons (pe_lst (pa_cons pe_non (pa_cons (pe_tup pa_nil) (pa_cons pe_int (pa_cons pe_str (pa_cons pe_dnewT (pa_cons (pe_tup (pa_cons pe_str pa_nil)) (pa_cons (pe_tup (pa_cons pe_str (pa_cons pe_int pa_nil))) (pa_cons (pe_tup (pa_cons pe_str (pa_cons (pe_tup (pa_cons pe_int (pa_cons pe_int pa_nil))) pa_nil))) (pa_cons (pe_tup (pa_cons pe_str (pa_cons pe_non pa_nil))) (pa_cons (pe_tup (pa_cons pe_int (pa_cons pe_int pa_nil))) pa_nil))))))))))) pa_nil)))) (pss_one (ps_ret (pe_and (pe_not (pe_call G_is_parts_or_form (hr.mono (by decide)) rfl T.m_is_parts_or_form T.k_is_parts_or_form b_is_parts_or_form .nil passL (pa_cons (pv 5) (pa_cons (pv 4) (pa_cons (pv 11) pa_nil))))) (pe_one (pe_not (pe_call G_is_whole_or_test (hr.mono (by decide)) rfl T.m_is_whole_or_test T.k_is_whole_or_test b_is_whole_or_test .nil passL (pa_cons (pv 5) (pa_cons (pv 4) (pa_cons (pv 11) pa_nil)))))))))))))))))))))))))))))), sp_bodyE h fun ss S post hg => ?_⟩
    obtain ⟨k, v, rfl, hk, hT, rfl⟩ := hg
    have hT0 : ∃ u, S = S.set k (vatD u) := ⟨v, (set_id hk).symm⟩
    have hkS : ∀ {v'}, (S.set k (vatD v'))[k]? = some (vatD v') := fun {v'} => set_get hk
    refine sp_setE (eve_pick (p := fun d => d ∈ NONES) hT0 hk rfl (EvN.ev (en_lst (ds := NONES) ?_ (szd (Nat.le_of_ble_eq_true rfl)))) (by simp [NONES]) (by decide) fun d h => h) fun r S2 ⟨no, e1, hn, v1, e2⟩ => ?_
    · show EvA K _ _ _ [.d (.non), .d (.int 0), .d (.tup []), .d (.lst [.int 1, .int 2]), .d (.tup [.int 1, .bl true]), .d (.tup [.int 1, .str "2"]), .d (.tup [.int 1, .int T10]), .d (.tup [.tup [.int 1, .int 2]]), .d (REP17), .d (.str "row"), .d (.dd), .d (.tup [.non])] _
      (repeat (first | exact ea_nil | apply ea_cons | exact ev_non | exact ev_int | exact ev_str | exact ev_bl | exact ev_dd | exact ev_var rfl | exact ev_tup (ds := []) ea_nil (Nat.zero_le _) | exact EvN.ev (en_lst (ds := []) ea_nil (Nat.zero_le _)) | apply ev_tup | (apply EvN.ev; apply en_lst) | exact szd (Nat.le_of_ble_eq_true rfl)))
      exact ev_big
      (repeat (first | exact ea_nil | apply ea_cons | exact ev_non | exact ev_int | exact ev_str | exact ev_bl | exact ev_dd | exact ev_var rfl | exact ev_tup (ds := []) ea_nil (Nat.zero_le _) | exact EvN.ev (en_lst (ds := []) ea_nil (Nat.zero_le _)) | apply ev_tup | (apply EvN.ev; apply en_lst) | exact szd (Nat.le_of_ble_eq_true rfl)))
      exact ev_z (by decide) (by decide)
      (repeat (first | exact ea_nil | apply ea_cons | exact ev_non | exact ev_int | exact ev_str | exact ev_bl | exact ev_dd | exact ev_var rfl | exact ev_tup (ds := []) ea_nil (Nat.zero_le _) | exact EvN.ev (en_lst (ds := []) ea_nil (Nat.zero_le _)) | apply ev_tup | (apply EvN.ev; apply en_lst) | exact szd (Nat.le_of_ble_eq_true rfl)))
    subst e1 e2
    have hn1 := nones_kd _ hn
    have hn2 := nones_no _ hn
    refine sp_set (S1 := S.set k (vatD v1)) (x := .d (.lst BADS)) (EvN.ev (en_lst (ds := BADS) ?_ (szd (Nat.le_of_ble_eq_true rfl)))) ?_
    · show EvA K _ _ _ [.d (.non), .d (.int 5), .d (.tup []), .d (.lst [.tup [.int 1, .int 2]]), .d (.tup [.int 1, .int 2]), .d (.tup [.tup [.int 1, .int 2], .tup [.int 1]]), .d (.tup [.tup [.int 1, .int 2], .lst [.int 3, .int 4]]), .d (.tup [.tup [.int 1, .int 2], .tup [.int 1, .non]]), .d (.tup [.tup []]), .d (.str "rows"), .d (.dd), .d (REP401)] _
      (repeat (first | exact ea_nil | apply ea_cons | exact ev_non | exact ev_int | exact ev_str | exact ev_bl | exact ev_dd | exact ev_var rfl | exact ev_tup (ds := []) ea_nil (Nat.zero_le _) | exact EvN.ev (en_lst (ds := []) ea_nil (Nat.zero_le _)) | apply ev_tup | (apply EvN.ev; apply en_lst) | exact szd (Nat.le_of_ble_eq_true rfl)))
      exact ev_op (ev_tup (ds := [.tup [.int 1]]) (ea_cons (ev_tup (ds := [.int 1]) (ea_cons ev_int ea_nil) (szd (Nat.le_of_ble_eq_true rfl))) ea_nil) (szd (Nat.le_of_ble_eq_true rfl))) ev_int (o_repA (by simp) (by decide) (by decide) (Nat.le_of_ble_eq_true rfl))
      (repeat (first | exact ea_nil | apply ea_cons | exact ev_non | exact ev_int | exact ev_str | exact ev_bl | exact ev_dd | exact ev_var rfl | exact ev_tup (ds := []) ea_nil (Nat.zero_le _) | exact EvN.ev (en_lst (ds := []) ea_nil (Nat.zero_le _)) | apply ev_tup | (apply EvN.ev; apply en_lst) | exact szd (Nat.le_of_ble_eq_true rfl)))
    refine sp_asgE (f := fun d env => match d with | .tup [a, b] => (env.set 2 (some (.d a))).set 3 (some (.d b)) | _ => env) (is := [2, 3]) (post := fun r T => ∃ (a b : Dat) (v' : Vt), r = .d (.tup [a, b]) ∧ a ∈ BADS ∧ b ∈ ODDS ∧ T = S.set k (vatD v')) (eve_tup (eae_cons (eve_pick (v := v1) (p := fun d => d ∈ BADS) ⟨v1, rfl⟩ hkS rfl (ev_var rfl) (by simp [BADS]) (by decide) fun d h => h) fun x S1 ⟨d, e1, h1, v2, h2⟩ => eae_cons (eve_pick (S := S) (v := v2) (p := fun d => d ∈ ODDS) ⟨v2, h2⟩ (by rw [h2]; exact hkS) rfl (EvN.ev (en_lst (ds := ODDS) ?_ (szd (Nat.le_of_ble_eq_true rfl)))) (by simp [ODDS]) (by decide) fun d h => h) fun y S2 ⟨d2, e3, h3, v3, h4⟩ => eae_nil ⟨[d, d2], by rw [e1, e3]; rfl, (szd (Nat.le_of_ble_eq_true rfl)), d, d2, v3, rfl, h1, h3, h4⟩)) fun r S1 ⟨bad, odd, v3, e1, hb, ho, e2⟩ => ⟨_, e1, tg_pair, ?_⟩
    · show EvA K _ _ _ [.d (.non), .d (.bl true), .d (.str "1"), .d (.tup [.int 1]), .d (.int T10), .d (.int (0 - T10)), .d (.lst [])] _
      (repeat (first | exact ea_nil | apply ea_cons | exact ev_non | exact ev_int | exact ev_str | exact ev_bl | exact ev_dd | exact ev_var rfl | exact ev_tup (ds := []) ea_nil (Nat.zero_le _) | exact EvN.ev (en_lst (ds := []) ea_nil (Nat.zero_le _)) | apply ev_tup | (apply EvN.ev; apply en_lst) | exact szd (Nat.le_of_ble_eq_true rfl)))
      exact ev_big
      (repeat (first | exact ea_nil | apply ea_cons | exact ev_non | exact ev_int | exact ev_str | exact ev_bl | exact ev_dd | exact ev_var rfl | exact ev_tup (ds := []) ea_nil (Nat.zero_le _) | exact EvN.ev (en_lst (ds := []) ea_nil (Nat.zero_le _)) | apply ev_tup | (apply EvN.ev; apply en_lst) | exact szd (Nat.le_of_ble_eq_true rfl)))
      exact ev_op ev_int ev_big o_sub
      (repeat (first | exact ea_nil | apply ea_cons | exact ev_non | exact ev_int | exact ev_str | exact ev_bl | exact ev_dd | exact ev_var rfl | exact ev_tup (ds := []) ea_nil (Nat.zero_le _) | exact EvN.ev (en_lst (ds := []) ea_nil (Nat.zero_le _)) | apply ev_tup | (apply EvN.ev; apply en_lst) | exact szd (Nat.le_of_ble_eq_true rfl)))
    subst e2
    have hb1 := bads_kd _ hb
    have hb2 := bads_no _ hb
    have ho1 := odds_kd _ ho
    have ho2 := odds_no _ ho
    have ho3 := odds_sh _ ho
    refine sp_env (env' := [some (.c k), some (.d no), some (.d bad), some (.d odd), Option.none, Option.none, Option.none, Option.none, Option.none, Option.none, Option.none, Option.none]) rfl ?_
    have eR : ∀ {env : Env1} {S : List Dat}, Ev K (tTup (tCons (tTup (tCons (tC (.int 3)) (tCons (tUn (rU fun i => V.int (-i)) (tC (.int 4))) tNil))) (tCons (tTup (tCons (tTup (tCons (tC (.int 1)) (tCons (tC (.int 2)) tNil))) (tCons (tTup (tCons (tC (.int 2)) (tCons (tC (.int 4)) tNil))) tNil))) tNil))) env S (.d (.tup [ROW2, ROWS2])) S := fun {env S} => by
      apply ev_tup
      · show EvA K _ env S [.d (.tup [.int 3, .int (-4)]), .d (.tup [.tup [.int 1, .int 2], .tup [.int 2, .int 4]])] S
        (repeat (first | exact ea_nil | apply ea_cons | exact ev_non | exact ev_int | exact ev_str | exact ev_bl | exact ev_dd | exact ev_var rfl | exact ev_tup (ds := []) ea_nil (Nat.zero_le _) | exact EvN.ev (en_lst (ds := []) ea_nil (Nat.zero_le _)) | apply ev_tup | (apply EvN.ev; apply en_lst) | exact szd (Nat.le_of_ble_eq_true rfl)))
        exact ev_un ev_int o_neg
        (repeat (first | exact ea_nil | apply ea_cons | exact ev_non | exact ev_int | exact ev_str | exact ev_bl | exact ev_dd | exact ev_var rfl | exact ev_tup (ds := []) ea_nil (Nat.zero_le _) | exact EvN.ev (en_lst (ds := []) ea_nil (Nat.zero_le _)) | apply ev_tup | (apply EvN.ev; apply en_lst) | exact szd (Nat.le_of_ble_eq_true rfl)))
      · exact (szd (Nat.le_of_ble_eq_true rfl))
    refine sp_asg (S1 := S.set k (vatD v3)) (d := .tup [ROW2, ROWS2]) eR tg_pair ?_
    refine sp_setE (eve_pick (v := v3) (p := fun d => d ∈ OTHS) ⟨v3, rfl⟩ hkS rfl (EvN.ev (en_lst (ds := OTHS) ?_ (szd (Nat.le_of_ble_eq_true rfl)))) (by simp [OTHS]) (by decide) fun d h => h) fun r S2 ⟨oth, e1, hot, v4, e2⟩ => ?_
    · show EvA K _ _ _ [.d (.tup [.int 1]), .d (.tup [.int 1, .int 2, .int 3]), .d (REP16)] _
      (repeat (first | exact ea_nil | apply ea_cons | exact ev_non | exact ev_int | exact ev_str | exact ev_bl | exact ev_dd | exact ev_var rfl | exact ev_tup (ds := []) ea_nil (Nat.zero_le _) | exact EvN.ev (en_lst (ds := []) ea_nil (Nat.zero_le _)) | apply ev_tup | (apply EvN.ev; apply en_lst) | exact szd (Nat.le_of_ble_eq_true rfl)))
      exact ev_z (by decide) (by decide)
      (repeat (first | exact ea_nil | apply ea_cons | exact ev_non | exact ev_int | exact ev_str | exact ev_bl | exact ev_dd | exact ev_var rfl | exact ev_tup (ds := []) ea_nil (Nat.zero_le _) | exact EvN.ev (en_lst (ds := []) ea_nil (Nat.zero_le _)) | apply ev_tup | (apply EvN.ev; apply en_lst) | exact szd (Nat.le_of_ble_eq_true rfl)))
    subst e1 e2
    have ht1 := oths_kd _ hot
    have ht2 := oths_ok _ hot
    refine sp_env (env' := [some (.c k), some (.d no), some (.d bad), some (.d odd), some (.d ROW2), some (.d ROWS2), some (.d oth), Option.none, Option.none, Option.none, Option.none, Option.none]) rfl ?_
    have hT4 : AllTabs (tabs T) (S.set k (vatD v4)) := at_setl hT hk
    have hk4 : (S.set k (vatD v4))[k]? = some (vatD v4) := hkS
    have hlen : (S.set k (vatD v4)).length = S.length := List.length_set ..
    have e4 : ∀ v', (S.set k (vatD v4)).set k (vatD v') = S.set k (vatD v') := fun v' => by rw [List.set_set]
    generalize S.set k (vatD v4) = S4 at hT4 hlen hk4 e4 ⊢
    have hkl : k < S4.length := (List.getElem?_eq_some_iff.mp hk4).1
    have eD1 : ∀ {env : Env1} {S : List Dat}, Ev K (tTup (tCons (tTup (tCons (tC (.int 1)) (tCons (tC (.int 2)) tNil))) tNil)) env S (.d D1) S := fun {env S} => ev_tup (ds := [.tup [.int 1, .int 2]]) (ea_cons (ev_tup (ds := [.int 1, .int 2]) (ea_cons ev_int (ea_cons ev_int ea_nil)) (szd (Nat.le_of_ble_eq_true rfl))) ea_nil) (szd (Nat.le_of_ble_eq_true rfl))
    have eD2 : ∀ {env : Env1} {S : List Dat}, Ev K (tTup (tCons (tTup (tCons (tC (.int 1)) tNil)) (tCons (tTup (tCons (tC (.int 2)) tNil)) tNil))) env S (.d D2) S := fun {env S} => ev_tup (ds := [.tup [.int 1], .tup [.int 2]]) (ea_cons (ev_tup (ds := [.int 1]) (ea_cons ev_int ea_nil) (szd (Nat.le_of_ble_eq_true rfl))) (ea_cons (ev_tup (ds := [.int 2]) (ea_cons ev_int ea_nil) (szd (Nat.le_of_ble_eq_true rfl))) ea_nil)) (szd (Nat.le_of_ble_eq_true rfl))
    have tRow : ∀ H : Hp, RS T H T.a_InvalidRow Option.none (.t (toldV "row")) := fun H => .row
    have tOpn : ∀ H : Hp, RS T H T.a_InvalidOperation Option.none (.t (toldV "operation")) := fun H => .op
    have tNm : ∀ (H : Hp) (v : V), Rep K H v odd → RS T H T.a_InvalidNumber (some ("given", v)) (.t (toldV (shT "number " odd))) := fun H v h => .num ho3 h
    have tZr : ∀ (H : Hp) (v : V), Rep K H v ZR → RS T H T.a_Refused (some ("reason", v)) (.t (toldV (reprD ZR))) := fun H v h => .zero zr_sh h
    refine sp_parC (S1 := S4) (S2 := S4) (ds := []) (y := .d (.lst [])) (en_lst (ds := []) ea_nil (Nat.zero_le _)) (EvN.ev (en_lst (ds := []) ea_nil (Nat.zero_le _))) ?_
    have hT5 : AllTabs (tabs T) (S4 ++ [Dat.lst []]) := at_app hT4
    refine sp_env (env' := [some (.c k), some (.d no), some (.d bad), some (.d odd), some (.d ROW2), some (.d ROWS2), some (.d oth), some (.c S4.length), some (.d (.lst [])), Option.none, Option.none, Option.none]) rfl ?_
    refine sp_seq (P' := { nx := fun env' S2 => S2 = S4 ++ (.lst ((W1 3).map toldD) :: []) ∧ ∃ o, env' = [some (.c k), some (.d no), some (.d bad), some (.d odd), some (.d ROW2), some (.d ROWS2), some (.d oth), some (.c S4.length), some (.d (.lst ((W1 3).map Dat.str))), o, Option.none, Option.none] })
      (sp_forA (xs := [T.a_plus, T.a_less, T.a_dot]) (g := Dat.adr) (it_tup (ev_tup (ds := [.adr T.a_plus, .adr T.a_less, .adr T.a_dot]) (ea_cons ev_adr (ea_cons ev_adr (ea_cons ev_adr ea_nil))) (szd (Nat.le_of_ble_eq_true rfl)))) (fun i env' S2 => S2 = S4 ++ (.lst ((W1 i).map toldD) :: []) ∧ ∃ o, env' = [some (.c k), some (.d no), some (.d bad), some (.d odd), some (.d ROW2), some (.d ROWS2), some (.d oth), some (.c S4.length), some (.d (.lst ((W1 i).map Dat.str))), o, Option.none, Option.none]) ⟨rfl, _, rfl⟩ (fun _ _ _ _ _ _ _ _ _ => trivial) ?_ ?_) ?_
    · rintro i a env' S2 ha ⟨rfl, o, rfl⟩
      refine ⟨[9], fun env => env.set 9 (some (.d (.adr a))), tg_name, ?_⟩
      have hi : i < 3 := (List.getElem?_eq_some_iff.mp ha).1
      have hM := mrd (K := K) (G := gPRx T.a_InvalidRow T.a_InvalidOperation) ha
      have hli := w1_len i
      refine sp_tellM rfl (ev_met0 (met_ok T) (at_mid hT5) (fun E => ev_callLX rfl hM (ea_cons (ev_var rfl) (ea_cons (ev_var rfl) ea_nil)) ⟨no, no, _, _, rfl, hn1, hn1, xN hn2, rfl, rfl⟩) (rep_told K _) tRow) (by rw [List.length_map]; omega) ?_
      rw [← map_snoc]
      refine sp_tellM rfl (ev_met0 (met_ok T) (at_mid hT5) (fun E => ev_callLX rfl hM (ea_cons (ev_var rfl) (ea_cons (ev_var rfl) ea_nil)) ⟨ROW2, no, _, _, rfl, row2_kd, hn1, xON hn2, rfl, rfl⟩) (rep_told K _) tRow) (by rw [List.length_map, List.length_append]; show _ + 1 < _; omega) ?_
      rw [← map_snoc]
      refine sp_tellM rfl (ev_met0 (met_ok T) (at_mid hT5) (fun E => ev_callLX rfl hM (ea_cons (ev_var rfl) (ea_cons (ev_var rfl) ea_nil)) ⟨oth, no, _, _, rfl, ht1, hn1, xTN ht2.1 hn2, rfl, rfl⟩) (rep_told K _) tRow) (by rw [List.length_map, List.length_append, List.length_append]; show _ + 1 + 1 < _; omega) ?_
      rw [← map_snoc]
      refine sp_tellM rfl (ev_met0 (met_ok T) (at_mid hT5) (fun E => ev_callLX rfl hM (ea_cons (ev_var rfl) (ea_cons (ev_var rfl) ea_nil)) ⟨ROW2, oth, _, _, rfl, row2_kd, ht1, xOT ht2, rfl, rfl⟩) (rep_told K _) tOpn) (by rw [List.length_map, List.length_append, List.length_append, List.length_append]; show _ + 1 + 1 + 1 < _; omega) ?_
      rw [← map_snoc, ← w1_next]
      refine sp_set1 (x := .d (.lst ((W1 (i + 1)).map Dat.str))) (Ev.to (EvN.ev (en_cat (ds := (W1 i).map Dat.str) (es := RRRO.map Dat.str) (ev_var rfl) (EvN.ev (en_lst (ds := RRRO.map Dat.str) (ea_cons ev_str (ea_cons ev_str (ea_cons ev_str (ea_cons ev_str ea_nil)))) (szd (Nat.le_of_ble_eq_true rfl)))) (.inl rfl) (.inl rfl) (szd (by rw [List.length_map]; show _ + 4 ≤ _; omega)))) (by rw [show W1 (i + 1) = W1 i ++ RRRO from fl_next _ _, List.map_append])) ⟨rfl, some (.d (.adr a)), rfl⟩
    · rintro env' S2 ⟨rfl, o, rfl⟩
      exact ⟨rfl, o, rfl⟩
    rintro env' S2 ⟨rfl, o, rfl⟩
    have hl1 := w1_len 3
    refine sp_tellM rfl (ev_met0 (met_ok T) (at_mid hT5) (fun E => ev_callX (ea_cons (ev_var rfl) (ea_cons (ev_var rfl) ea_nil)) ⟨no, odd, rfl, hn1, ho1, .inl ⟨hn2, rfl⟩, rfl⟩) (rep_told K _) tRow) (by rw [List.length_map]; omega) ?_
    rw [← map_snoc]
    refine sp_tellM rfl (ev_met1 (met_ok T) (at_mid hT5) (fun E => ev_callX (ea_cons (ev_var rfl) (ea_cons (ev_var rfl) ea_nil)) ⟨ROW2, odd, rfl, row2_kd, ho1, .inr (.inl ⟨r2_ok, ho2, rfl⟩), rfl⟩) (rep_told K _) tNm) (by rw [List.length_map, List.length_append]; show _ + 1 < _; omega) ?_
    rw [← map_snoc]
    refine sp_tellM rfl (ev_met0 (met_ok T) (at_mid hT5) (fun E => ev_callX (ea_cons (ev_var rfl) ea_nil) ⟨no, rfl, hn1, hn2, rfl, rfl⟩) (rep_told K _) tRow) (by rw [List.length_map, List.length_append, List.length_append]; show _ + 1 + 1 < _; omega) ?_
    rw [← map_snoc]
    refine sp_tellM rfl (ev_met0 (met_ok T) (at_mid hT5) (fun E => ev_callX (ea_cons (ev_var rfl) ea_nil) (.inl ⟨no, rfl, hn1, hn2, rfl, rfl⟩)) (rep_told K _) tRow) (by rw [List.length_map, List.length_append, List.length_append, List.length_append]; show _ + 1 + 1 + 1 < _; omega) ?_
    rw [← map_snoc]
    -- a number is drawn within the call
    obtain ⟨v5, hv5⟩ : ∃ v5, (drawF v4 16).2 = v5 := ⟨_, rfl⟩
    have n0 := draw_nn v4 (t := 16) (by decide)
    have n1 := draw_lt v4 (t := 16) (by decide)
    have eset : ∀ {G : List Dat}, (S4 ++ G).set k (vatD v5) = S4.set k (vatD v5) ++ G := fun {G} => List.set_append_left _ _ hkl
    have hk5 : (S4.set k (vatD v5))[k]? = some (vatD v5) := set_get hk4
    have hT5' : AllTabs (tabs T) (S4.set k (vatD v5)) := at_setl hT4 hk4
    have hlen5 : (S4.set k (vatD v5)).length = S.length := by rw [List.length_set, hlen]
    have e5 : ∀ v', (S4.set k (vatD v5)).set k (vatD v') = S.set k (vatD v') := fun v' => by rw [List.set_set, e4]
    have elen : S4.length = (S4.set k (vatD v5)).length := (List.length_set ..).symm
    refine sp_drop (ev_append (S2 := S4.set k (vatD v5) ++ [.lst (((((W1 3 ++ [Str.ofString "row"]) ++ [shT "number " odd]) ++ [Str.ofString "row"]) ++ [Str.ofString "row"]).map toldD)]) (ds := ((((W1 3 ++ [Str.ofString "row"]) ++ [shT "number " odd]) ++ [Str.ofString "row"]) ++ [Str.ofString "row"]).map toldD) (k := S4.length) (ev_var rfl) (ev_met1 (met_ok T) (at_mid hT5) (fun E => evx_prim (k := k) (v := v4) (v5 := v5) hv5 hk4 hkl rfl n0 n1) (rep_told K _) tZr) ⟨_, get_app⟩ (by rw [elen]; exact get_app) (Nat.lt_of_le_of_lt (show _ ≤ 30 from Nat.le_of_ble_eq_true rfl) (by decide))) ?_
    refine sp_env_S (S' := S4.set k (vatD v5) ++ [.lst (((((W1 3 ++ [Str.ofString "row"]) ++ [shT "number " odd]) ++ [Str.ofString "row"]) ++ [Str.ofString "row"]).map toldD ++ [toldD (reprD ZR)])]) (by rw [elen]; exact set_app) ?_
    rw [← map_snoc]
    have ew : ((((W1 3 ++ [Str.ofString "row"]) ++ [shT "number " odd]) ++ [Str.ofString "row"]) ++ [Str.ofString "row"]) ++ [reprD ZR] = W2 odd 0 := by
      unfold W2
      rw [List.replicate_zero, List.append_nil]
      simp
    rw [ew]
    refine sp_env (env' := [some (.c k), some (.d no), some (.d bad), some (.d odd), some (.d ROW2), some (.d ROWS2), some (.d oth), some (.c (S4.set k (vatD v5)).length), some (.d (.lst ((W1 3).map Dat.str))), o, Option.none, Option.none]) (by rw [← elen]) ?_
    generalize S4.set k (vatD v5) = S5 at hk5 hT5' hlen5 e5
    clear hT5 eset elen
    have hT6 : ∀ {xs : List Dat}, AllTabs (tabs T) (S5 ++ [Dat.lst xs]) := fun {xs} => at_app hT5'
    refine sp_setC (S1 := S5 ++ [.lst ((W2 odd 0).map toldD)]) (ds := (W2 odd 0).map Dat.str) (EvN.toD (en_cat (ds := (W1 3).map Dat.str) (es := [.str "row", .str (shT "number " odd), .str "row", .str "row", .str (reprD ZR)]) (ev_var rfl) (EvN.ev (en_lst (ds := [.str "row", .str (shT "number " odd), .str "row", .str "row", .str (reprD ZR)]) (ea_cons ev_str (ea_cons (ev_op ev_str (ev_cb (ea_cons (ev_var rfl) ea_nil) (cd_reprD ho3.pl (by decide) ho3.sh (Nat.le_trans ho3.len (szd (Nat.le_of_ble_eq_true rfl))))) (o_addS ?_)) (ea_cons ev_str (ea_cons ev_str (ea_cons ?_ ea_nil))))) (szd (Nat.le_of_ble_eq_true rfl)))) (.inl rfl) (.inl rfl) (szd (Nat.le_of_ble_eq_true rfl))) (by unfold W2; rw [List.replicate_zero, List.append_nil, List.map_append]; rfl)) ?_
    · rw [show (Str.ofString "number ").length = 7 by decide +kernel]; exact szd (by have := ho3.len; omega)
    · rw [zr_is]; exact ev_str
    have hT7 : ∀ {xs ys : List Dat}, AllTabs (tabs T) (S5 ++ (Dat.lst xs :: [Dat.lst ys])) := fun {xs ys} => by
      have := at_app (xs := ys) (hT6 (xs := xs))
      rwa [List.append_assoc] at this
    refine sp_env_S (S' := S5 ++ (.lst ((W2 odd 0).map toldD) :: [.lst ((W2 odd 0).map Dat.str)])) (by rw [List.append_assoc]; rfl) ?_
    refine sp_env (env' := [some (.c k), some (.d no), some (.d bad), some (.d odd), some (.d ROW2), some (.d ROWS2), some (.d oth), some (.c S5.length), some (.c (S5.length + 1 + 0)), o, Option.none, Option.none]) (by rw [show (S5 ++ [Dat.lst ((W2 odd 0).map toldD)]).length = S5.length + 1 + 0 by simp]; rfl) ?_
    refine sp_seq (P' := { nx := fun env' S2 => S2 = S5 ++ (.lst ((W2 odd 4).map toldD) :: [.lst ((W2 odd 4).map Dat.str)]) ∧ ∃ o, env' = [some (.c k), some (.d no), some (.d bad), some (.d odd), some (.d ROW2), some (.d ROWS2), some (.d oth), some (.c S5.length), some (.c (S5.length + 1 + 0)), o, Option.none, Option.none] })
      (sp_forA (xs := [T.a_determinant, T.a_rank, T.a_basis, T.a_kernel]) (g := Dat.adr) (it_tup (ev_tup (ds := [.adr T.a_determinant, .adr T.a_rank, .adr T.a_basis, .adr T.a_kernel]) (ea_cons ev_adr (ea_cons ev_adr (ea_cons ev_adr (ea_cons ev_adr ea_nil)))) (szd (Nat.le_of_ble_eq_true rfl)))) (fun i env' S2 => S2 = S5 ++ (.lst ((W2 odd i).map toldD) :: [.lst ((W2 odd i).map Dat.str)]) ∧ ∃ o, env' = [some (.c k), some (.d no), some (.d bad), some (.d odd), some (.d ROW2), some (.d ROWS2), some (.d oth), some (.c S5.length), some (.c (S5.length + 1 + 0)), o, Option.none, Option.none]) ⟨rfl, _, rfl⟩ (fun _ _ _ _ _ _ _ _ _ => trivial) ?_ ?_) ?_
    · rintro i a env' S2 ha ⟨rfl, o, rfl⟩
      refine ⟨[9], fun env => env.set 9 (some (.d (.adr a))), tg_name, ?_⟩
      have hi : i < 4 := (List.getElem?_eq_some_iff.mp ha).1
      have hM := mrd (K := K) (G := gRx (fun v => asrB v 400 16) T.a_InvalidRow) ha
      have hli := w2_len odd i
      refine sp_tellM rfl (ev_met0 (met_ok T) hT7 (fun E => ev_callLX rfl hM (ea_cons (ev_var rfl) ea_nil) ⟨bad, rfl, hb1, hb2, rfl, rfl⟩) (rep_told K _) tRow) (by rw [List.length_map]; omega) ?_
      rw [← map_snoc, ← w2_next]
      have hmG2 : (S5 ++ (Dat.lst ((W2 odd (i + 1)).map toldD) :: [.lst ((W2 odd i).map Dat.str)]))[S5.length + 1 + 0]? = some (.lst ((W2 odd i).map Dat.str)) := mid_get2
      refine sp_drop1 (ev_append (d := .str "row") (ds := (W2 odd i).map Dat.str) (ev_var rfl) ev_str ⟨_, hmG2⟩ hmG2 (Nat.lt_of_le_of_lt (by rw [List.length_map]; omega : _ ≤ 30) (by decide))) ⟨?_, some (.d (.adr a)), rfl⟩
      rw [w2_next, map_snoc Dat.str, mid_set2]; rfl
    · rintro env' S2 ⟨rfl, o, rfl⟩
      exact ⟨rfl, o, rfl⟩
    rintro env' S2 ⟨rfl, o, rfl⟩
    have hl2 := w2_len odd 4
    refine sp_tellM rfl (ev_met0 (met_ok T) hT7 (fun E => ev_callX (ea_cons eD1 ea_nil) (.inr ⟨D1, rfl, d1_kd, d1_ok, by decide, rfl, rfl⟩)) (rep_told K _) tOpn) (by rw [List.length_map]; omega) ?_
    rw [← map_snoc]
    refine sp_tellM rfl (ev_met0 (met_ok T) hT7 (fun E => ev_callX (ea_cons eD2 ea_nil) (.inr ⟨D2, rfl, d2_kd, d2_ok, by decide, rfl, rfl⟩)) (rep_told K _) tOpn) (by rw [List.length_map, List.length_append]; show _ + 1 < _; omega) ?_
    rw [← map_snoc]
    have ew3 : (W2 odd 4 ++ [Str.ofString "operation"]) ++ [Str.ofString "operation"] = W3 odd 0 := by
      unfold W3
      rw [List.replicate_zero, List.flatten_nil, List.append_nil, List.append_assoc]; rfl
    rw [ew3]
    refine sp_set (x := .d (.lst ((W3 odd 0).map Dat.str))) (S1 := S5 ++ (.lst ((W3 odd 0).map toldD) :: [.lst ((W2 odd 4).map Dat.str)])) (Ev.to (EvN.ev (en_cat (ds := (W2 odd 4).map Dat.str) (es := [.str "operation", .str "operation"]) (ev_var rfl) (EvN.ev (en_lst (ds := [.str "operation", .str "operation"]) (ea_cons ev_str (ea_cons ev_str ea_nil)) (szd (Nat.le_of_ble_eq_true rfl)))) (.cell mid_get2) (.inl rfl) (szd (by rw [List.length_map]; show _ + 2 ≤ _; omega)))) (by rw [← ew3, List.map_append, List.map_append, List.append_assoc]; rfl)) ?_
    generalize (W2 odd 4).map Dat.str = G0
    refine sp_env (env' := [some (.c k), some (.d no), some (.d bad), some (.d odd), some (.d ROW2), some (.d ROWS2), some (.d oth), some (.c S5.length), some (.d (.lst ((W3 odd 0).map Dat.str))), o, Option.none, Option.none]) rfl ?_
    refine sp_seq (P' := { nx := fun env' S2 => S2 = S5 ++ (.lst ((W3 odd 2).map toldD) :: [.lst G0]) ∧ ∃ o, env' = [some (.c k), some (.d no), some (.d bad), some (.d odd), some (.d ROW2), some (.d ROWS2), some (.d oth), some (.c S5.length), some (.d (.lst ((W3 odd 2).map Dat.str))), o, Option.none, Option.none] })
      (sp_forA (xs := [T.a_parts_or_form, T.a_whole_or_test]) (g := Dat.adr) (it_tup (ev_tup (ds := [.adr T.a_parts_or_form, .adr T.a_whole_or_test]) (ea_cons ev_adr (ea_cons ev_adr ea_nil)) (szd (Nat.le_of_ble_eq_true rfl)))) (fun i env' S2 => S2 = S5 ++ (.lst ((W3 odd i).map toldD) :: [.lst G0]) ∧ ∃ o, env' = [some (.c k), some (.d no), some (.d bad), some (.d odd), some (.d ROW2), some (.d ROWS2), some (.d oth), some (.c S5.length), some (.d (.lst ((W3 odd i).map Dat.str))), o, Option.none, Option.none]) ⟨rfl, _, rfl⟩ (fun _ _ _ _ _ _ _ _ _ => trivial) ?_ ?_) ?_
    · rintro i a env' S2 ha ⟨rfl, o, rfl⟩
      refine ⟨[9], fun env => env.set 9 (some (.d (.adr a))), tg_name, ?_⟩
      have hi : i < 2 := (List.getElem?_eq_some_iff.mp ha).1
      have hM := mrd (K := K) (G := gGLx T.a_InvalidRow T.a_InvalidOperation) ha
      have hli := w3_len odd i
      refine sp_tellM rfl (ev_met0 (met_ok T) hT7 (fun E => ev_callLX rfl hM (ea_cons (ev_var rfl) (ea_cons (ev_var rfl) ea_nil)) ⟨bad, no, _, _, rfl, hb1, hn1, gB1 hb2, rfl, rfl⟩) (rep_told K _) tRow) (by rw [List.length_map]; omega) ?_
      rw [← map_snoc]
      refine sp_tellM rfl (ev_met0 (met_ok T) hT7 (fun E => ev_callLX rfl hM (ea_cons (ev_var rfl) (ea_cons (ev_var rfl) ea_nil)) ⟨ROWS2, no, _, _, rfl, rows2_kd, hn1, gRN hn2, rfl, rfl⟩) (rep_told K _) tRow) (by rw [List.length_map, List.length_append]; show _ + 1 < _; omega) ?_
      rw [← map_snoc]
      refine sp_tellM rfl (ev_met0 (met_ok T) hT7 (fun E => ev_callLX rfl hM (ea_cons (ev_var rfl) (ea_cons (ev_var rfl) ea_nil)) ⟨ROWS2, oth, _, _, rfl, rows2_kd, ht1, gRT ht2, rfl, rfl⟩) (rep_told K _) tOpn) (by rw [List.length_map, List.length_append, List.length_append]; show _ + 1 + 1 < _; omega) ?_
      rw [← map_snoc, ← w3_next]
      refine sp_set1 (x := .d (.lst ((W3 odd (i + 1)).map Dat.str))) (Ev.to (EvN.ev (en_cat (ds := (W3 odd i).map Dat.str) (es := RRO.map Dat.str) (ev_var rfl) (EvN.ev (en_lst (ds := RRO.map Dat.str) (ea_cons ev_str (ea_cons ev_str (ea_cons ev_str ea_nil))) (szd (Nat.le_of_ble_eq_true rfl)))) (.inl rfl) (.inl rfl) (szd (by rw [List.length_map]; show _ + 3 ≤ _; omega)))) (by rw [w3_next, List.map_append, List.map_append, List.map_append, List.append_assoc, List.append_assoc]; rfl)) ⟨rfl, some (.d (.adr a)), rfl⟩
    · rintro env' S2 ⟨rfl, o, rfl⟩
      exact ⟨rfl, o, rfl⟩
    rintro env' S2 ⟨rfl, o, rfl⟩
    have ew4 : W3 odd 2 = W4 odd 0 := by unfold W4; rw [List.replicate_zero, List.flatten_nil, List.append_nil]
    rw [ew4]
    refine sp_seq (P' := { nx := fun env' S2 => S2 = S5 ++ (.lst ((W4 odd 2).map toldD) :: [.lst G0]) ∧ ∃ o, env' = [some (.c k), some (.d no), some (.d bad), some (.d odd), some (.d ROW2), some (.d ROWS2), some (.d oth), some (.c S5.length), some (.d (.lst ((W4 odd 2).map Dat.str))), o, Option.none, Option.none] })
      (sp_forA (xs := [T.a_is_parts_or_form, T.a_is_whole_or_test]) (g := Dat.adr) (it_tup (ev_tup (ds := [.adr T.a_is_parts_or_form, .adr T.a_is_whole_or_test]) (ea_cons ev_adr (ea_cons ev_adr ea_nil)) (szd (Nat.le_of_ble_eq_true rfl)))) (fun i env' S2 => S2 = S5 ++ (.lst ((W4 odd i).map toldD) :: [.lst G0]) ∧ ∃ o, env' = [some (.c k), some (.d no), some (.d bad), some (.d odd), some (.d ROW2), some (.d ROWS2), some (.d oth), some (.c S5.length), some (.d (.lst ((W4 odd i).map Dat.str))), o, Option.none, Option.none]) ⟨rfl, _, rfl⟩ (fun _ _ _ _ _ _ _ _ _ => trivial) ?_ ?_) ?_
    · rintro i a env' S2 ha ⟨rfl, o, rfl⟩
      refine ⟨[9], fun env => env.set 9 (some (.d (.adr a))), tg_name, ?_⟩
      have hi : i < 2 := (List.getElem?_eq_some_iff.mp ha).1
      have hM := mrd (K := K) (G := gGL3 T.a_InvalidRow T.a_InvalidOperation) ha
      have hli := w4_len odd i
      refine sp_tellM rfl (ev_met0 (met_ok T) hT7 (fun E => ev_callLX rfl hM (ea_cons (ev_var rfl) (ea_cons (ev_var rfl) (ea_cons ev_non ea_nil))) ⟨bad, no, .non, _, _, rfl, hb1, hn1, gB1 hb2, rfl, rfl⟩) (rep_told K _) tRow) (by rw [List.length_map]; omega) ?_
      rw [← map_snoc]
      refine sp_tellM rfl (ev_met0 (met_ok T) hT7 (fun E => ev_callLX rfl hM (ea_cons (ev_var rfl) (ea_cons (ev_var rfl) (ea_cons ev_non ea_nil))) ⟨ROWS2, no, .non, _, _, rfl, rows2_kd, hn1, gRN hn2, rfl, rfl⟩) (rep_told K _) tRow) (by rw [List.length_map, List.length_append]; show _ + 1 < _; omega) ?_
      rw [← map_snoc]
      refine sp_tellM rfl (ev_met0 (met_ok T) hT7 (fun E => ev_callLX rfl hM (ea_cons (ev_var rfl) (ea_cons (ev_var rfl) (ea_cons ev_non ea_nil))) ⟨ROWS2, oth, .non, _, _, rfl, rows2_kd, ht1, gRT ht2, rfl, rfl⟩) (rep_told K _) tOpn) (by rw [List.length_map, List.length_append, List.length_append]; show _ + 1 + 1 < _; omega) ?_
      rw [← map_snoc, ← w4_next]
      refine sp_set1 (x := .d (.lst ((W4 odd (i + 1)).map Dat.str))) (Ev.to (EvN.ev (en_cat (ds := (W4 odd i).map Dat.str) (es := RRO.map Dat.str) (ev_var rfl) (EvN.ev (en_lst (ds := RRO.map Dat.str) (ea_cons ev_str (ea_cons ev_str (ea_cons ev_str ea_nil))) (szd (Nat.le_of_ble_eq_true rfl)))) (.inl rfl) (.inl rfl) (szd (by rw [List.length_map]; show _ + 3 ≤ _; omega)))) (by rw [w4_next, List.map_append, List.map_append, List.map_append, List.append_assoc, List.append_assoc]; rfl)) ⟨rfl, some (.d (.adr a)), rfl⟩
    · rintro env' S2 ⟨rfl, o, rfl⟩
      exact ⟨rfl, o, rfl⟩
    rintro env' S2 ⟨rfl, o, rfl⟩
    have hl4 := w4_len odd 2
    refine sp_ifq (S1 := S5 ++ (.lst ((W4 odd 2).map toldD) :: [.lst G0])) (b := false) (et_orP (a := false) (b := false) (et_test (Ev.to (ev_op (ev_var rfl) (EvN.ev (en_mapA (xs := W4 odd 2) (g := Dat.str) (is := [10]) toldD (it_lst (Ev.to (ev_var rfl) rfl)) (szd (by omega)) (fun _ _ => trivial) (by decide) (fun s env => env.set 10 (some (.d (.str s)))) fun s hs => ⟨tg_name, ev_tup (ds := [.str "refused", .str s]) (ea_cons ev_str (ea_cons (ev_var rfl) ea_nil)) (szd (Nat.le_of_ble_eq_true rfl))⟩)) (op2_neD (plS_c (pl_all ho3.lay) mid_get) (plS_d (pl_all ho3.lay)) (by decide) (by decide))) (congrArg (fun b => Sl.d (Dat.bl (!b))) (eqD_refl (pl_all ho3.lay))))) fun _ => et_orP (a := false) (b := false) (et_bl (Ev.to (ev_call (ea_cons (ev_var rfl) ea_nil) ⟨no, rfl, hn1, rfl, rfl⟩) (congrArg (fun b => Sl.d (Dat.bl b)) hn2))) fun _ => et_bl (Ev.to (ev_call (ea_cons (ev_var rfl) ea_nil) ⟨bad, rfl, hb1, rfl, rfl⟩) (congrArg (fun b => Sl.d (Dat.bl b)) hb2))) (fun h => by cases h) fun _ => sp_nextq ?_
    have hk6 : (S5 ++ (Dat.lst ((W4 odd 2).map toldD) :: [.lst G0]))[k]? = some (vatD v5) := by
      rw [List.getElem?_append_left (List.getElem?_eq_some_iff.mp hk5).1]; exact hk5
    refine sp_setE (eve_pick (v := v5) (p := fun d => d ∈ VALS) ⟨v5, (set_id hk6).symm⟩ hk6 rfl (EvN.ev (en_lst (ds := VALS) ?_ (szd (Nat.le_of_ble_eq_true rfl)))) (by simp [VALS]) (by decide) fun d h => h) fun r S2 ⟨value, e1, hv, v6, e2⟩ => ?_
    · show EvA K _ _ _ [.d (.non), .d (.tup []), .d (.int 0), .d (.str "parts"), .d (.dd), .d (.tup [.str "parts"]), .d (.tup [.str "form", .int 5]), .d (.tup [.str "test", .tup [.int 0, .int 0]]), .d (.tup [.str "whole", .non]), .d (.tup [.int 1, .int 2])] _
      (repeat (first | exact ea_nil | apply ea_cons | exact ev_non | exact ev_int | exact ev_str | exact ev_bl | exact ev_dd | exact ev_var rfl | exact ev_tup (ds := []) ea_nil (Nat.zero_le _) | exact EvN.ev (en_lst (ds := []) ea_nil (Nat.zero_le _)) | apply ev_tup | (apply EvN.ev; apply en_lst) | exact szd (Nat.le_of_ble_eq_true rfl)))
    subst e1 e2
    have hod := vals_odd _ hv
    refine sp_ret (d := .bl true) (ev_andV (a := true) (b := true) (ev_notV (a := false) (ev_callR (d := .bl false) (ea_cons (ev_var rfl) (ea_cons (ev_var rfl) (ea_cons (ev_var rfl) ea_nil))) (.inr ⟨value, rfl, hod, rfl, rfl⟩))) fun _ => ev_notV (a := false) (ev_callR (d := .bl false) (ea_cons (ev_var rfl) (ea_cons (ev_var rfl) (ea_cons (ev_var rfl) ea_nil))) (.inr ⟨value, rfl, hod, rfl, rfl⟩))) ⟨rfl, v6, ?_⟩
    rw [List.set_append_left _ _ (List.getElem?_eq_some_iff.mp hk5).1, ← hlen5, show S5.length = (S5.set k (vatD v6)).length from (List.length_set ..).symm, List.take_left, e5]
end
end N03

set_option Elab.async false
set_option linter.all false
set_option maxRecDepth 100000
set_option maxHeartbeats 4000000
namespace N03
open PySem PySem.Spec PyProof.Rows L2 RW

def LH : List Int := [T10 - 1]
theorem lh_kd : KD (rowD LH) := row_kd _ (by decide)
theorem one_kd : KD (rowD [1]) := row_kd _ (by decide)
theorem out_hh {CR CO : Addr} : outPR CR CO (rowD LH) (rowD LH) = .val .non := by
  unfold outPR
  rw [show srB (rowD LH) 1 16 = true by decide +kernel, decide_eq_true rfl]; rfl
theorem out_h1 {CR CO : Addr} : outPR CR CO (rowD LH) (rowD [1]) = .val .non := by
  unfold outPR
  rw [show srB (rowD LH) 1 16 = true by decide +kernel, show srB (rowD [1]) 1 16 = true by decide +kernel, show decide (lenD (rowD LH) = lenD (rowD [1])) = true by decide +kernel]; rfl
theorem add_h1 : addR LH [1] = [T10] := by decide +kernel
theorem mul_hh : ∀ x ∈ LH, CMulW (1 - T10) x := fun x hx => by
  rw [List.mem_singleton.mp hx]
  exact (by decide +kernel : (1 - T10).natAbs.log2 + (T10 - 1).natAbs.log2 < 1000000)
theorem ones_is : Dat.tup (List.replicate (400 : Int).toNat [Dat.tup (List.replicate (16 : Int).toNat [Dat.int 1]).flatten]).flatten = ONES := by
  unfold ONES
  rw [rep_flatP, List.map_replicate, rep_row]; rfl
def FINE : List Dat := [letD, letD, letD]
theorem pl_let : Pl 1 letD := .tup fun d hd => by rw [List.mem_singleton.mp hd]; exact .str (by decide +kernel)
theorem pl_fine : Pl 2 (.lst FINE) := .lst fun x hx => by
  rw [List.eq_of_mem_replicate (show x ∈ List.replicate 3 letD from hx)]
  exact pl_let
theorem pl_t10 : Pl 1 (rowD [T10]) := .tup fun d hd => by
  obtain ⟨x, _, rfl⟩ := List.mem_map.mp hd
  exact .int x
theorem z16_kd : KD (.tup [Z 16]) := .tup (kc (z_kd (by decide)) kn) (by decide)
section
variable {K : PySem.W.Frag} {mg : Str → Option Value}
def gLaw (T : Txt K mg) (ss : List Sl) (S : List Dat) (r : Dat) (S' : List Dat) : Prop := ∃ (ns : List Int), ss = [.d (.scr ns)] ∧ ns.length ≤ 63 ∧ AllTabs (tabs T) S ∧ r = .bl true ∧ S' = S
theorem ev_h {env : Env1} {S : List Dat} : Ev K (tTup (tCons (tOp (rI0 fun i j => V.int (i - j)) (tOp (rI CPowW fun i j => V.int (i ^ j.toNat)) (tC (.int 10)) (tC (.int 60))) (tC (.int 1))) tNil)) env S (.d (rowD LH)) S :=
  ev_tup (ds := [.int (T10 - 1)]) (ea_cons (ev_op ev_big ev_int o_sub) ea_nil) (szd (Nat.le_of_ble_eq_true rfl))
end
section
variable {P : Program} {w : World} {K : PySem.W.Frag} {mg : Str → Option Value} {base : Heap}

theorem ok_law (T : Txt K mg) (TB : LamX.TabB base mg T.c_law T.P_law) (TB__law_right : LamX.TabB base mg T.c__law_right T.P__law_right) : FnG P w K mg base CX0 9 T.a_law T.d_law ["script"] (SpD K (gLaw T)) := by
  have G__law_pail := ok__law_pail (P := P) (w := w) (base := base) T
  have b__law_pail := T.b__law_pail
  have G__law_right := ok__law_right (P := P) (w := w) (base := base) T TB__law_right
  have b__law_right := T.b__law_right
  have G_rank := ok_rank (P := P) (w := w) (base := base) T
  have b_rank := T.b_rank
  have G_plus := ok_plus (P := P) (w := w) (base := base) T
  have b_plus := T.b_plus
  have G_multiple := ok_multiple (P := P) (w := w) (base := base) T
  have b_multiple := T.b_multiple
  have G_is_row := ok_is_row (P := P) (w := w) (base := base) T
  have b_is_row := T.b_is_row
  have G_are_rows := ok_are_rows (P := P) (w := w) (base := base) T
  have b_are_rows := T.b_are_rows
  obtain ⟨oc0, od0, kV0, doc0, pm0, an0, ct0, osl0, ed0, lk0, hc0⟩ := T.lk_law
  rw [ed0] at lk0 ⊢
  refine fng_body lk0 hc0 sc_law (spd_len (k := 1) fun ss S r S' hg => ?_) (fun A outer s H vs Q E hcm hr h => ?_)
  · obtain ⟨i, rfl, _⟩ := hg; rfl
  · have hcode : (cxOf CX0 P w K mg base ["script", "spot", "pail", "met_v"] "law" (defScope s_law) T.a_law (.ref T.c_law) A outer s H E).nox.env.code = .ref T.c_law := rfl
    refine ⟨_, PSs.nox (pss_cons (ps_for PassesOwn.never rfl (pi_range1 (by rfl) T.n_range (pa_cons (pe_callB (call_max2D rfl) (by rfl) T.n_max (by decide +kernel) (pa_cons pe_int (pa_cons (pe_callB (call_min2D rfl) (by rfl) T.n_min (by decide +kernel) (pa_cons pe_int (pa_cons (pe_callB (call_lenK K) (by rfl) T.n_len (by decide +kernel) (pa_cons (pv 0) pa_nil)) pa_nil))) pa_nil))) pa_nil)) (pg_name (i := 1) sc_law.nd rfl (by first | exact Or.inl rfl | exact Or.inr rfl)) (pss_cons (ps_set (i := 2) sc_law.nd rfl (by first | exact Or.inl rfl | exact Or.inr rfl) (pe_call G__law_pail (hr.mono (by decide)) rfl T.m__law_pail T.k__law_pail b__law_pail .nil pass0 (pa_cons (pv 0) (pa_cons (pv 1) pa_nil)))) (pss_one (ps_if (PW.pt (pw_or (pt_not (pt_truK K (pe_callG G__law_right hcm (hr.mono (by decide)) rfl T.m__law_right T.k__law_right b__law_right pass0 (pa_cons (pv 2) pa_nil)))) (pw_or1 (pt_not (pt_truK K (pe_callG G__law_right hcm (hr.mono (by decide)) rfl T.m__law_right T.k__law_right b__law_right pass0 (pa_cons (pv 2) pa_nil))))))) (pss_one (ps_ret pe_bl)) pss_nil)))) (pss_cons (ps_set (i := 3) sc_law.nd rfl (by first | exact Or.inl rfl | exact Or.inr rfl) (pe_lst (pa_cons (lam__law_met (T := T) (k := 5) (tm0 T) (tu0 T) hcm TB hcode (hr.mono (by decide)) rfl (LamX.lamS_by (sc := defScope s_law) (by decide +kernel)) rfl (fun _ _ _ _ _ => rfl) (fun A2 outer2 s2 H2 E2 f2 c2 hr2 => (pe_call G_rank (hr2.mono (by decide)) rfl T.m_rank T.k_rank b_rank .nil (passR (takes_of rfl rfl rfl rfl)) (pa_cons (pe_op (op_rpAK K) (pe_tup (pa_cons (pe_op (op_rpAK K) (pe_tup (pa_cons pe_int pa_nil)) pe_int) pa_nil)) pe_int) pa_nil)))) pa_nil))) (pss_cons (ps_expr (pe_bm PySem.F.plainAttrs_list PySem.F.slot_list_append PySem.F.type_list_append mt_append (pv 3) (pa_cons (lam__law_met (T := T) (k := 5) (tm0 T) (tu0 T) hcm TB hcode (hr.mono (by decide)) rfl (LamX.lamS_by (sc := defScope s_law) (by decide +kernel)) rfl (fun _ _ _ _ _ => rfl) (fun A2 outer2 s2 H2 E2 f2 c2 hr2 => (pe_call G_plus (hr2.mono (by decide)) rfl T.m_plus T.k_plus b_plus .nil (passR (takes_of rfl rfl rfl rfl)) (pa_cons (pe_tup (pa_cons (pe_op op_sub (pe_op op_powW pe_int pe_int) pe_int) pa_nil)) (pa_cons (pe_tup (pa_cons (pe_op op_sub (pe_op op_powW pe_int pe_int) pe_int) pa_nil)) pa_nil))))) pa_nil))) (pss_cons (ps_expr (pe_bm PySem.F.plainAttrs_list PySem.F.slot_list_append PySem.F.type_list_append mt_append (pv 3) (pa_cons (lam__law_met (T := T) (k := 5) (tm0 T) (tu0 T) hcm TB hcode (hr.mono (by decide)) rfl (LamX.lamS_by (sc := defScope s_law) (by decide +kernel)) rfl (fun _ _ _ _ _ => rfl) (fun A2 outer2 s2 H2 E2 f2 c2 hr2 => (pe_call G_multiple (hr2.mono (by decide)) rfl T.m_multiple T.k_multiple b_multiple .nil (passR (takes_of rfl rfl rfl rfl)) (pa_cons (pe_tup (pa_cons (pe_op op_sub (pe_op op_powW pe_int pe_int) pe_int) pa_nil)) (pa_cons (pe_op op_sub pe_int (pe_op op_powW pe_int pe_int)) pa_nil))))) pa_nil))) (pss_cons (ps_if (PW.pt (pw_or (pt_cmpR (op_neDK K hr.units) (pv 3) (pe_op op_rep (pe_lst (pa_cons (pe_tup (pa_cons pe_str pa_nil)) pa_nil)) pe_int) (nomark _)) (pw_or1 (pt_cmpR (op_neDK K hr.units) (pe_call G_plus (hr.mono (by decide)) rfl T.m_plus T.k_plus b_plus .nil passL (pa_cons (pe_tup (pa_cons (pe_op op_sub (pe_op op_powW pe_int pe_int) pe_int) pa_nil)) (pa_cons (pe_tup (pa_cons pe_int pa_nil)) pa_nil))) (pe_tup (pa_cons (pe_op op_powW pe_int pe_int) pa_nil)) (nomark _))))) (pss_one (ps_ret pe_bl)) pss_nil) (pss_one (ps_ret (pe_and (pe_cmpR (op_eqDK K hr.units) (pe_tup (pa_cons (pe_glob (v := .int 16) rfl T.m_MOST_LENGTH ⟨_, rfl⟩) (pa_cons (pe_glob (v := .int 400) rfl T.m_MOST_ROWS ⟨_, rfl⟩) pa_nil))) (pe_tup (pa_cons pe_int (pa_cons pe_int pa_nil))) (nomark _)) (pe_and (pe_call G_is_row (hr.mono (by decide)) rfl T.m_is_row T.k_is_row b_is_row .nil pass0 (pa_cons (pe_tup (pa_cons pe_int pa_nil)) pa_nil)) (pe_one (pe_call G_are_rows (hr.mono (by decide)) rfl T.m_are_rows T.k_are_rows b_are_rows .nil pass0 (pa_cons (pe_tup (pa_cons (pe_op (op_rpAK K) (pe_tup (pa_cons pe_int pa_nil)) pe_int) pa_nil)) pa_nil)))))))))))), sp_body h fun ss S r S' hg => ?_⟩
    obtain ⟨ns, rfl, hns, hT, rfl, rfl⟩ := hg
    obtain ⟨c, hc⟩ : ∃ c : Nat, max 1 (min 4 (ns.length : Int)) = (c : Int) := ⟨(max 1 (min 4 (ns.length : Int))).toNat, by omega⟩
    have hc4 : c ≤ 4 := by omega
    refine sp_seq (P' := { nx := fun env' S2 => (∃ X, S2 = S' ++ X) ∧ AllTabs (tabs T) S2 ∧ ∃ o1 o2, env' = [some (.d (.scr ns)), o1, o2, Option.none] })
      (sp_forA (xs := List.range c) (g := fun i => Dat.int (0 + (i : Nat))) (it_rangeN (m := c) (ea_cons ((ev_cb (ea_cons ev_int (ea_cons (ev_cb (ea_cons ev_int (ea_cons (ev_cb (ea_cons (ev_var rfl) ea_nil) cd_lenS) ea_nil)) cd_min2) ea_nil)) cd_max2).to (by rw [hc])) ea_nil) (by omega)) (fun i env' S2 => (∃ X, S2 = S' ++ X) ∧ AllTabs (tabs T) S2 ∧ ∃ o1 o2, env' = [some (.d (.scr ns)), o1, o2, Option.none]) ⟨⟨[], (List.append_nil _).symm⟩, hT, none, none, rfl⟩ (fun _ _ _ _ _ _ _ _ _ => trivial) ?_ ?_) ?_
    · rintro i a env' S2 ha ⟨⟨X, rfl⟩, hT2, o1, o2, rfl⟩
      refine ⟨[1], fun env => env.set 1 (some (.d (.int (0 + (a : Nat))))), tg_name, ?_⟩
      rw [Int.zero_add]
      refine sp_setC (S1 := S' ++ X) (ds := [.int (vatF ns a).1, .int (vatF ns a).2.1, .int (vatF ns a).2.2]) (en_call (ea_cons (ev_var rfl) (ea_cons (ev_var rfl) ea_nil)) ⟨ns, a, rfl, rfl, rfl⟩) ?_
      refine sp_ifE (pT := fun b T1 => b = false ∧ ∃ v', T1 = S' ++ X ++ [vatD v']) (ete_or (pT' := fun b T1 => b = false ∧ ∃ v', T1 = S' ++ X ++ [vatD v']) (ete_not (ete_bl (eve_callA (ea_cons (ev_var rfl) ea_nil) ⟨(S' ++ X).length, vatF ns a, rfl, get_app, at_app hT2, rfl⟩ fun r T ⟨h1, v', h2⟩ => ⟨true, by rw [h1], rfl, v', by rw [h2]; exact set_app⟩))) (fun S1 h => ?_) fun S1 h => by cases h.1) (fun S1 h => by cases h.1) fun S1 h => ?_
      · obtain ⟨_, v', rfl⟩ := h
        exact ete_not (ete_bl (eve_callA (ea_cons (ev_var rfl) ea_nil) ⟨(S' ++ X).length, v', rfl, get_app, at_app hT2, rfl⟩ fun r T ⟨h1, v', h2⟩ => ⟨true, by rw [h1], rfl, v', by rw [h2]; exact set_app⟩))
      · obtain ⟨_, v', rfl⟩ := h
        exact sp_next ⟨⟨X ++ [vatD v'], by rw [List.append_assoc]⟩, at_app hT2, _, _, rfl⟩
    · rintro env' S2 ⟨hX, hT2, o1, o2, rfl⟩
      exact ⟨hX, hT2, o1, o2, rfl⟩
    · rintro env' S2 ⟨⟨X, rfl⟩, hT2, o1, o2, rfl⟩
      have hT3 : ∀ {xs : List Dat}, AllTabs (tabs T) (S' ++ X ++ [.lst xs]) := fun {xs} => at_app hT2
      have eO : ∀ {env : Env1} {S : List Dat}, Ev K (tOp (RwT.rRepA K) (tTup (tCons (tOp (RwT.rRepA K) (tTup (tCons (tC (.int 1)) tNil)) (tC (.int 16))) tNil)) (tC (.int 400))) env S (.d ONES) S := fun {env S} =>
        Ev.to (ev_op (ev_tup (ds := [.tup (List.replicate (16 : Int).toNat [Dat.int 1]).flatten]) (ea_cons (ev_op (ev_tup (ds := [.int 1]) (ea_cons ev_int ea_nil) (szd (Nat.le_of_ble_eq_true rfl))) ev_int (o_repA (by simp) (by decide) (by decide) (Nat.le_of_ble_eq_true rfl))) ea_nil) (szd (Nat.le_of_ble_eq_true rfl))) ev_int (o_repA (by simp) (by decide) (by decide) (Nat.le_of_ble_eq_true rfl))) (congrArg Sl.d ones_is)
      refine sp_setC (S1 := S' ++ X) (ds := [letD]) (en_lst (ea_cons (ev_metH (met_ok T) hT2 (fun E => ev_callR (ea_cons eO ea_nil) (.inr ⟨rfl, rfl, rfl⟩)) (rep_let K)) ea_nil) (szd (Nat.le_of_ble_eq_true rfl))) ?_
      refine sp_env (env' := [some (.d (.scr ns)), o1, o2, some (.c (S' ++ X).length)]) rfl ?_
      refine sp_tellM (G := []) rfl (ev_metH (met_ok T) hT3 (fun E => ev_callR (ea_cons ev_h (ea_cons ev_h ea_nil)) (.inr ⟨LH, LH, rfl, lh_kd, lh_kd, by decide, out_hh, rfl, rfl⟩)) (rep_let K)) (Nat.le_of_ble_eq_true rfl) ?_
      refine sp_tellM (G := []) rfl (ev_metH (met_ok T) hT3 (fun E => ev_callR (ea_cons ev_h (ea_cons (ev_op ev_int ev_big o_sub) ea_nil)) ⟨rowD LH, .int (1 - T10), rfl, lh_kd, .int _, .inr (.inr ⟨LH, 1 - T10, rfl, rfl, by decide +kernel, by decide +kernel, by decide, mul_hh, rfl⟩), rfl⟩) (rep_let K)) (Nat.le_of_ble_eq_true rfl) ?_
      refine sp_env_S (S' := S' ++ X ++ [.lst FINE]) rfl ?_
      refine sp_ifq (S1 := S' ++ X ++ [.lst FINE]) (b := false) (et_orP (a := false) (b := false) (et_test (Ev.to (ev_op (ev_var rfl) (EvN.ev (en_rep (k := 3) (ds := [letD]) (EvN.ev (en_lst (ds := [letD]) (ea_cons (ev_tup (ds := [.str "fine"]) (ea_cons ev_str ea_nil) (szd (Nat.le_of_ble_eq_true rfl))) ea_nil) (szd (Nat.le_of_ble_eq_true rfl)))) ev_int .lst ⟨by decide, by decide⟩ (szd (Nat.le_of_ble_eq_true rfl)))) (op2_neD (plS_c pl_fine get_app) (plS_d pl_fine) (by decide) (by decide))) (congrArg (fun b => Sl.d (Dat.bl (!b))) (eqD_refl pl_fine)))) fun _ => et_test (Ev.to (ev_op (Ev.to (ev_callR (ea_cons ev_h (ea_cons (ev_tup (ds := [.int 1]) (ea_cons ev_int ea_nil) (szd (Nat.le_of_ble_eq_true rfl))) ea_nil)) (.inr ⟨LH, [1], rfl, lh_kd, one_kd, by decide, out_h1, rfl, rfl⟩)) (r' := .d (rowD [T10])) (by rw [add_h1])) (ev_tup (ds := [.int T10]) (ea_cons ev_big ea_nil) (szd (Nat.le_of_ble_eq_true rfl))) (op2_neD (plS_d pl_t10) (plS_d pl_t10) (by decide) (by decide))) (congrArg (fun b => Sl.d (Dat.bl (!b))) (eqD_refl pl_t10)))) (fun h => by cases h) fun _ => sp_nextq ?_
      have p2 : Pl 1 (.tup [.int 16, .int 400]) := .tup fun d hd => by
        simp only [List.mem_cons, List.not_mem_nil, or_false] at hd
        rcases hd with rfl | rfl <;> exact .int _
      have hr0 : srB (.tup [.int 0]) 1 16 = true := by decide +kernel
      have hrs : asrB (.tup [Z 16]) 400 16 = true := by decide +kernel
      refine sp_ret (d := .bl true) (S1 := S' ++ X ++ [.lst FINE]) (ev_andV (a := true) (b := true) (Ev.to (ev_op (ev_tup (ds := [.int 16, .int 400]) (ea_cons ev_int (ea_cons ev_int ea_nil)) (szd (Nat.le_of_ble_eq_true rfl))) (ev_tup (ds := [.int 16, .int 400]) (ea_cons ev_int (ea_cons ev_int ea_nil)) (szd (Nat.le_of_ble_eq_true rfl))) (op2_eqD (plS_d p2) (plS_d p2) (by decide) (by decide))) (congrArg (fun b => Sl.d (Dat.bl b)) (eqD_refl p2))) fun _ => ev_andV (a := true) (b := true) (Ev.to (ev_call (ea_cons (ev_tup (ds := [.int 0]) (ea_cons ev_int ea_nil) (szd (Nat.le_of_ble_eq_true rfl))) ea_nil) ⟨.tup [.int 0], rfl, by (repeat (first | exact kn | (refine kc ?_ ?_) | assumption | exact KD.non | exact KD.bl _ | exact KD.int _ | exact KD.str _ | exact KD.dd | refine KD.tup ?_ (Nat.le_of_ble_eq_true rfl) | refine KD.lst ?_ (Nat.le_of_ble_eq_true rfl))), rfl, rfl⟩) (congrArg (fun b => Sl.d (Dat.bl b)) hr0)) fun _ => Ev.to (ev_call (ea_cons (ev_tup (ds := [Z 16]) (ea_cons (ev_z (by decide) (by decide)) ea_nil) (szd (Nat.le_of_ble_eq_true rfl))) ea_nil) ⟨.tup [Z 16], rfl, z16_kd, rfl, rfl⟩) (congrArg (fun b => Sl.d (Dat.bl b)) hrs)) ⟨rfl, by rw [List.append_assoc, List.take_left]⟩
end
end N03

set_option Elab.async false
set_option maxRecDepth 100000
set_option maxHeartbeats 4000000
namespace N03
open PySem PySem.Spec PyProof.Rows L2 RW
theorem all_mk {l : PySem.W.OpenLaw} {q : Program} {w : World} {K : PySem.W.Frag} {h : Heap} {mg : Str → Option Value} {fa : Addr} (X : K.In h) (G : h.Ns mainGlobals mg) (hfa : mg "law" = some (.ref fa))
    {t_BEYOND : Tok}
    {t_BENEATH : Tok}
    {t_MOST_LENGTH : Tok}
    {t_MOST_ROWS : Tok}
    {a_InvalidRow : Addr}
    {a_InvalidOperation : Addr}
    {a_InvalidNumber : Addr}
    {a_Refused : Addr}
    {a_InvalidNumberu_initu : Addr} {od_InvalidNumberu_initu an_InvalidNumberu_initu : Option Addr} {sl_InvalidNumberu_initu : Array (Option Value)} {oc_InvalidNumberu_initu kV_InvalidNumberu_initu dc_InvalidNumberu_initu pm_InvalidNumberu_initu cd_InvalidNumberu_initu ct_InvalidNumberu_initu : Value}
    {a_Refusedu_initu : Addr} {od_Refusedu_initu an_Refusedu_initu : Option Addr} {sl_Refusedu_initu : Array (Option Value)} {oc_Refusedu_initu kV_Refusedu_initu dc_Refusedu_initu pm_Refusedu_initu cd_Refusedu_initu ct_Refusedu_initu : Value}
    {a_is_whole : Addr} {od_is_whole an_is_whole : Option Addr} {sl_is_whole : Array (Option Value)} {oc_is_whole kV_is_whole dc_is_whole pm_is_whole cd_is_whole ct_is_whole : Value}
    {a_is_short : Addr} {od_is_short an_is_short : Option Addr} {sl_is_short : Array (Option Value)} {oc_is_short kV_is_short dc_is_short pm_is_short cd_is_short ct_is_short : Value}
    {a_are_short : Addr} {od_are_short an_are_short : Option Addr} {sl_are_short : Array (Option Value)} {oc_are_short kV_are_short dc_are_short pm_are_short cd_are_short ct_are_short : Value}
    {a_are_whole : Addr} {od_are_whole an_are_whole : Option Addr} {sl_are_whole : Array (Option Value)} {oc_are_whole kV_are_whole dc_are_whole pm_are_whole cd_are_whole ct_are_whole : Value}
    {a_is_short_row : Addr} {od_is_short_row an_is_short_row : Option Addr} {sl_is_short_row : Array (Option Value)} {oc_is_short_row kV_is_short_row dc_is_short_row pm_is_short_row cd_is_short_row ct_is_short_row : Value}
    {a_is_whole_row : Addr} {od_is_whole_row an_is_whole_row : Option Addr} {sl_is_whole_row : Array (Option Value)} {oc_is_whole_row kV_is_whole_row dc_is_whole_row pm_is_whole_row cd_is_whole_row ct_is_whole_row : Value}
    {a_are_short_rows : Addr} {od_are_short_rows an_are_short_rows : Option Addr} {sl_are_short_rows : Array (Option Value)} {oc_are_short_rows kV_are_short_rows dc_are_short_rows pm_are_short_rows cd_are_short_rows ct_are_short_rows : Value}
    {a_is_told : Addr} {od_is_told an_is_told : Option Addr} {sl_is_told : Array (Option Value)} {oc_is_told kV_is_told dc_is_told pm_is_told cd_is_told ct_is_told : Value}
    {a_need_number : Addr} {od_need_number an_need_number : Option Addr} {sl_need_number : Array (Option Value)} {oc_need_number kV_need_number dc_need_number pm_need_number cd_need_number ct_need_number : Value}
    {a_sum_of : Addr} {od_sum_of an_sum_of : Option Addr} {sl_sum_of : Array (Option Value)} {oc_sum_of kV_sum_of dc_sum_of pm_sum_of cd_sum_of ct_sum_of : Value}
    {a_times : Addr} {od_times an_times : Option Addr} {sl_times : Array (Option Value)} {oc_times kV_times dc_times pm_times cd_times ct_times : Value}
    {a_content_of : Addr} {od_content_of an_content_of : Option Addr} {sl_content_of : Array (Option Value)} {oc_content_of kV_content_of dc_content_of pm_content_of cd_content_of ct_content_of : Value}
    {a_eliminated : Addr} {od_eliminated an_eliminated : Option Addr} {sl_eliminated : Array (Option Value)} {oc_eliminated kV_eliminated dc_eliminated pm_eliminated cd_eliminated ct_eliminated : Value}
    {a_first_with : Addr} {od_first_with an_first_with : Option Addr} {sl_first_with : Array (Option Value)} {oc_first_with kV_first_with dc_first_with pm_first_with cd_first_with ct_first_with : Value}
    {a_stepped : Addr} {od_stepped an_stepped : Option Addr} {sl_stepped : Array (Option Value)} {oc_stepped kV_stepped dc_stepped pm_stepped cd_stepped ct_stepped : Value}
    {a_is_row : Addr} {od_is_row an_is_row : Option Addr} {sl_is_row : Array (Option Value)} {oc_is_row kV_is_row dc_is_row pm_is_row cd_is_row ct_is_row : Value}
    {a_are_rows : Addr} {od_are_rows an_are_rows : Option Addr} {sl_are_rows : Array (Option Value)} {oc_are_rows kV_are_rows dc_are_rows pm_are_rows cd_are_rows ct_are_rows : Value}
    {a_need_row : Addr} {od_need_row an_need_row : Option Addr} {sl_need_row : Array (Option Value)} {oc_need_row kV_need_row dc_need_row pm_need_row cd_need_row ct_need_row : Value}
    {a_need_rows : Addr} {od_need_rows an_need_rows : Option Addr} {sl_need_rows : Array (Option Value)} {oc_need_rows kV_need_rows dc_need_rows pm_need_rows cd_need_rows ct_need_rows : Value}
    {a_need_pair : Addr} {od_need_pair an_need_pair : Option Addr} {sl_need_pair : Array (Option Value)} {oc_need_pair kV_need_pair dc_need_pair pm_need_pair cd_need_pair ct_need_pair : Value}
    {a_need_goal : Addr} {od_need_goal an_need_goal : Option Addr} {sl_need_goal : Array (Option Value)} {oc_need_goal kV_need_goal dc_need_goal pm_need_goal cd_need_goal ct_need_goal : Value}
    {a_need_same : Addr} {od_need_same an_need_same : Option Addr} {sl_need_same : Array (Option Value)} {oc_need_same kV_need_same dc_need_same pm_need_same cd_need_same ct_need_same : Value}
    {a_plus : Addr} {od_plus an_plus : Option Addr} {sl_plus : Array (Option Value)} {oc_plus kV_plus dc_plus pm_plus cd_plus ct_plus : Value}
    {a_less : Addr} {od_less an_less : Option Addr} {sl_less : Array (Option Value)} {oc_less kV_less dc_less pm_less cd_less ct_less : Value}
    {a_dot : Addr} {od_dot an_dot : Option Addr} {sl_dot : Array (Option Value)} {oc_dot kV_dot dc_dot pm_dot cd_dot ct_dot : Value}
    {a_multiple : Addr} {od_multiple an_multiple : Option Addr} {sl_multiple : Array (Option Value)} {oc_multiple kV_multiple dc_multiple pm_multiple cd_multiple ct_multiple : Value}
    {a_content : Addr} {od_content an_content : Option Addr} {sl_content : Array (Option Value)} {oc_content kV_content dc_content pm_content cd_content ct_content : Value}
    {a_primitive : Addr} {od_primitive an_primitive : Option Addr} {sl_primitive : Array (Option Value)} {oc_primitive kV_primitive dc_primitive pm_primitive cd_primitive ct_primitive : Value}
    {a_determinant : Addr} {od_determinant an_determinant : Option Addr} {sl_determinant : Array (Option Value)} {oc_determinant kV_determinant dc_determinant pm_determinant cd_determinant ct_determinant : Value}
    {a_rank : Addr} {od_rank an_rank : Option Addr} {sl_rank : Array (Option Value)} {oc_rank kV_rank dc_rank pm_rank cd_rank ct_rank : Value}
    {a_basis : Addr} {od_basis an_basis : Option Addr} {sl_basis : Array (Option Value)} {oc_basis kV_basis dc_basis pm_basis cd_basis ct_basis : Value}
    {a_kernel : Addr} {od_kernel an_kernel : Option Addr} {sl_kernel : Array (Option Value)} {oc_kernel kV_kernel dc_kernel pm_kernel cd_kernel ct_kernel : Value}
    {a_parts_or_form : Addr} {od_parts_or_form an_parts_or_form : Option Addr} {sl_parts_or_form : Array (Option Value)} {oc_parts_or_form kV_parts_or_form dc_parts_or_form pm_parts_or_form cd_parts_or_form ct_parts_or_form : Value}
    {a_is_parts_or_form : Addr} {od_is_parts_or_form an_is_parts_or_form : Option Addr} {sl_is_parts_or_form : Array (Option Value)} {oc_is_parts_or_form kV_is_parts_or_form dc_is_parts_or_form pm_is_parts_or_form cd_is_parts_or_form ct_is_parts_or_form : Value}
    {a_is_test : Addr} {od_is_test an_is_test : Option Addr} {sl_is_test : Array (Option Value)} {oc_is_test kV_is_test dc_is_test pm_is_test cd_is_test ct_is_test : Value}
    {a_whole_or_test : Addr} {od_whole_or_test an_whole_or_test : Option Addr} {sl_whole_or_test : Array (Option Value)} {oc_whole_or_test kV_whole_or_test dc_whole_or_test pm_whole_or_test cd_whole_or_test ct_whole_or_test : Value}
    {a_is_whole_or_test : Addr} {od_is_whole_or_test an_is_whole_or_test : Option Addr} {sl_is_whole_or_test : Array (Option Value)} {oc_is_whole_or_test kV_is_whole_or_test dc_is_whole_or_test pm_is_whole_or_test cd_is_whole_or_test ct_is_whole_or_test : Value}
    {a__law_pail : Addr} {od__law_pail an__law_pail : Option Addr} {sl__law_pail : Array (Option Value)} {oc__law_pail kV__law_pail dc__law_pail pm__law_pail cd__law_pail ct__law_pail : Value}
    {a__law_scooped : Addr} {od__law_scooped an__law_scooped : Option Addr} {sl__law_scooped : Array (Option Value)} {oc__law_scooped kV__law_scooped dc__law_scooped pm__law_scooped cd__law_scooped ct__law_scooped : Value}
    {a__law_any_of : Addr} {od__law_any_of an__law_any_of : Option Addr} {sl__law_any_of : Array (Option Value)} {oc__law_any_of kV__law_any_of dc__law_any_of pm__law_any_of cd__law_any_of ct__law_any_of : Value}
    {a__law_met : Addr} {od__law_met an__law_met : Option Addr} {sl__law_met : Array (Option Value)} {oc__law_met kV__law_met dc__law_met pm__law_met cd__law_met ct__law_met : Value}
    {a__law_right : Addr} {od__law_right an__law_right : Option Addr} {sl__law_right : Array (Option Value)} {oc__law_right kV__law_right dc__law_right pm__law_right ct__law_right : Value}
    {c__law_right P__law_right : Addr} {lo__law_right : Value} {ld__law_right : Option Addr} {lv__law_right : Array Value} {ls__law_right : Array (Option Value)}
    {a_law : Addr} {od_law an_law : Option Addr} {sl_law : Array (Option Value)} {oc_law kV_law dc_law pm_law ct_law : Value}
    {c_law P_law : Addr} {lo_law : Value} {ld_law : Option Addr} {lv_law : Array Value} {ls_law : Array (Option Value)}
    (c_BEYOND : PySem.W.nsIn K mainGlobals "BEYOND" = some (some (.int (10 ^ 60) t_BEYOND)))
    (c_BENEATH : PySem.W.nsIn K mainGlobals "BENEATH" = some (some (.int (-(10 ^ 60)) t_BENEATH)))
    (c_MOST_LENGTH : PySem.W.nsIn K mainGlobals "MOST_LENGTH" = some (some (.int 16 t_MOST_LENGTH)))
    (c_MOST_ROWS : PySem.W.nsIn K mainGlobals "MOST_ROWS" = some (some (.int 400 t_MOST_ROWS)))
    (n_InvalidRow : PySem.W.nsIn K mainGlobals "InvalidRow" = some (some (.ref a_InvalidRow)))
    (n_InvalidOperation : PySem.W.nsIn K mainGlobals "InvalidOperation" = some (some (.ref a_InvalidOperation)))
    (n_InvalidNumber : PySem.W.nsIn K mainGlobals "InvalidNumber" = some (some (.ref a_InvalidNumber)))
    (n_Refused : PySem.W.nsIn K mainGlobals "Refused" = some (some (.ref a_Refused)))
    (a__InvalidNumberu_initu : PySem.W.findIn K (.ref a_InvalidNumber) "__init__" = some (some (.ref a_InvalidNumberu_initu)))
    (i__InvalidNumberu_initu : PySem.W.isFn K (.ref a_InvalidNumberu_initu) = true)
    (l__InvalidNumberu_initu : K.lookup a_InvalidNumberu_initu = some ⟨oc_InvalidNumberu_initu, od_InvalidNumberu_initu, .func (PySem.W.fnOf "__init__" "InvalidNumber.__init__" (defArgs s_InvalidNumberu_initu) (defBody s_InvalidNumberu_initu) (defScope s_InvalidNumberu_initu) .none kV_InvalidNumberu_initu dc_InvalidNumberu_initu pm_InvalidNumberu_initu an_InvalidNumberu_initu cd_InvalidNumberu_initu ct_InvalidNumberu_initu), sl_InvalidNumberu_initu⟩)
    (c__InvalidNumberu_initu : PySem.W.codeIn K cd_InvalidNumberu_initu "InvalidNumber.__init__" = true)
    (k__InvalidNumberu_initu : PySem.W.keepIn K (.ref a_InvalidNumberu_initu) = true)
    (a__Refusedu_initu : PySem.W.findIn K (.ref a_Refused) "__init__" = some (some (.ref a_Refusedu_initu)))
    (i__Refusedu_initu : PySem.W.isFn K (.ref a_Refusedu_initu) = true)
    (l__Refusedu_initu : K.lookup a_Refusedu_initu = some ⟨oc_Refusedu_initu, od_Refusedu_initu, .func (PySem.W.fnOf "__init__" "Refused.__init__" (defArgs s_Refusedu_initu) (defBody s_Refusedu_initu) (defScope s_Refusedu_initu) .none kV_Refusedu_initu dc_Refusedu_initu pm_Refusedu_initu an_Refusedu_initu cd_Refusedu_initu ct_Refusedu_initu), sl_Refusedu_initu⟩)
    (c__Refusedu_initu : PySem.W.codeIn K cd_Refusedu_initu "Refused.__init__" = true)
    (k__Refusedu_initu : PySem.W.keepIn K (.ref a_Refusedu_initu) = true)
    (a__is_whole : PySem.W.nsIn K mainGlobals "is_whole" = some (some (.ref a_is_whole)))
    (l__is_whole : K.lookup a_is_whole = some ⟨oc_is_whole, od_is_whole, .func (PySem.W.fnOf "is_whole" "is_whole" (defArgs s_is_whole) (defBody s_is_whole) (defScope s_is_whole) .none kV_is_whole dc_is_whole pm_is_whole an_is_whole cd_is_whole ct_is_whole), sl_is_whole⟩)
    (c__is_whole : PySem.W.codeIn K cd_is_whole "is_whole" = true)
    (k__is_whole : PySem.W.keepIn K (.ref a_is_whole) = true)
    (a__is_short : PySem.W.nsIn K mainGlobals "is_short" = some (some (.ref a_is_short)))
    (l__is_short : K.lookup a_is_short = some ⟨oc_is_short, od_is_short, .func (PySem.W.fnOf "is_short" "is_short" (defArgs s_is_short) (defBody s_is_short) (defScope s_is_short) .none kV_is_short dc_is_short pm_is_short an_is_short cd_is_short ct_is_short), sl_is_short⟩)
    (c__is_short : PySem.W.codeIn K cd_is_short "is_short" = true)
    (k__is_short : PySem.W.keepIn K (.ref a_is_short) = true)
    (a__are_short : PySem.W.nsIn K mainGlobals "are_short" = some (some (.ref a_are_short)))
    (l__are_short : K.lookup a_are_short = some ⟨oc_are_short, od_are_short, .func (PySem.W.fnOf "are_short" "are_short" (defArgs s_are_short) (defBody s_are_short) (defScope s_are_short) .none kV_are_short dc_are_short pm_are_short an_are_short cd_are_short ct_are_short), sl_are_short⟩)
    (c__are_short : PySem.W.codeIn K cd_are_short "are_short" = true)
    (k__are_short : PySem.W.keepIn K (.ref a_are_short) = true)
    (a__are_whole : PySem.W.nsIn K mainGlobals "are_whole" = some (some (.ref a_are_whole)))
    (l__are_whole : K.lookup a_are_whole = some ⟨oc_are_whole, od_are_whole, .func (PySem.W.fnOf "are_whole" "are_whole" (defArgs s_are_whole) (defBody s_are_whole) (defScope s_are_whole) .none kV_are_whole dc_are_whole pm_are_whole an_are_whole cd_are_whole ct_are_whole), sl_are_whole⟩)
    (c__are_whole : PySem.W.codeIn K cd_are_whole "are_whole" = true)
    (k__are_whole : PySem.W.keepIn K (.ref a_are_whole) = true)
    (a__is_short_row : PySem.W.nsIn K mainGlobals "is_short_row" = some (some (.ref a_is_short_row)))
    (l__is_short_row : K.lookup a_is_short_row = some ⟨oc_is_short_row, od_is_short_row, .func (PySem.W.fnOf "is_short_row" "is_short_row" (defArgs s_is_short_row) (defBody s_is_short_row) (defScope s_is_short_row) .none kV_is_short_row dc_is_short_row pm_is_short_row an_is_short_row cd_is_short_row ct_is_short_row), sl_is_short_row⟩)
    (c__is_short_row : PySem.W.codeIn K cd_is_short_row "is_short_row" = true)
    (k__is_short_row : PySem.W.keepIn K (.ref a_is_short_row) = true)
    (a__is_whole_row : PySem.W.nsIn K mainGlobals "is_whole_row" = some (some (.ref a_is_whole_row)))
    (l__is_whole_row : K.lookup a_is_whole_row = some ⟨oc_is_whole_row, od_is_whole_row, .func (PySem.W.fnOf "is_whole_row" "is_whole_row" (defArgs s_is_whole_row) (defBody s_is_whole_row) (defScope s_is_whole_row) .none kV_is_whole_row dc_is_whole_row pm_is_whole_row an_is_whole_row cd_is_whole_row ct_is_whole_row), sl_is_whole_row⟩)
    (c__is_whole_row : PySem.W.codeIn K cd_is_whole_row "is_whole_row" = true)
    (k__is_whole_row : PySem.W.keepIn K (.ref a_is_whole_row) = true)
    (a__are_short_rows : PySem.W.nsIn K mainGlobals "are_short_rows" = some (some (.ref a_are_short_rows)))
    (l__are_short_rows : K.lookup a_are_short_rows = some ⟨oc_are_short_rows, od_are_short_rows, .func (PySem.W.fnOf "are_short_rows" "are_short_rows" (defArgs s_are_short_rows) (defBody s_are_short_rows) (defScope s_are_short_rows) .none kV_are_short_rows dc_are_short_rows pm_are_short_rows an_are_short_rows cd_are_short_rows ct_are_short_rows), sl_are_short_rows⟩)
    (c__are_short_rows : PySem.W.codeIn K cd_are_short_rows "are_short_rows" = true)
    (k__are_short_rows : PySem.W.keepIn K (.ref a_are_short_rows) = true)
    (a__is_told : PySem.W.nsIn K mainGlobals "is_told" = some (some (.ref a_is_told)))
    (l__is_told : K.lookup a_is_told = some ⟨oc_is_told, od_is_told, .func (PySem.W.fnOf "is_told" "is_told" (defArgs s_is_told) (defBody s_is_told) (defScope s_is_told) .none kV_is_told dc_is_told pm_is_told an_is_told cd_is_told ct_is_told), sl_is_told⟩)
    (c__is_told : PySem.W.codeIn K cd_is_told "is_told" = true)
    (k__is_told : PySem.W.keepIn K (.ref a_is_told) = true)
    (a__need_number : PySem.W.nsIn K mainGlobals "need_number" = some (some (.ref a_need_number)))
    (l__need_number : K.lookup a_need_number = some ⟨oc_need_number, od_need_number, .func (PySem.W.fnOf "need_number" "need_number" (defArgs s_need_number) (defBody s_need_number) (defScope s_need_number) .none kV_need_number dc_need_number pm_need_number an_need_number cd_need_number ct_need_number), sl_need_number⟩)
    (c__need_number : PySem.W.codeIn K cd_need_number "need_number" = true)
    (k__need_number : PySem.W.keepIn K (.ref a_need_number) = true)
    (a__sum_of : PySem.W.nsIn K mainGlobals "sum_of" = some (some (.ref a_sum_of)))
    (l__sum_of : K.lookup a_sum_of = some ⟨oc_sum_of, od_sum_of, .func (PySem.W.fnOf "sum_of" "sum_of" (defArgs s_sum_of) (defBody s_sum_of) (defScope s_sum_of) .none kV_sum_of dc_sum_of pm_sum_of an_sum_of cd_sum_of ct_sum_of), sl_sum_of⟩)
    (c__sum_of : PySem.W.codeIn K cd_sum_of "sum_of" = true)
    (k__sum_of : PySem.W.keepIn K (.ref a_sum_of) = true)
    (a__times : PySem.W.nsIn K mainGlobals "times" = some (some (.ref a_times)))
    (l__times : K.lookup a_times = some ⟨oc_times, od_times, .func (PySem.W.fnOf "times" "times" (defArgs s_times) (defBody s_times) (defScope s_times) .none kV_times dc_times pm_times an_times cd_times ct_times), sl_times⟩)
    (c__times : PySem.W.codeIn K cd_times "times" = true)
    (k__times : PySem.W.keepIn K (.ref a_times) = true)
    (a__content_of : PySem.W.nsIn K mainGlobals "content_of" = some (some (.ref a_content_of)))
    (l__content_of : K.lookup a_content_of = some ⟨oc_content_of, od_content_of, .func (PySem.W.fnOf "content_of" "content_of" (defArgs s_content_of) (defBody s_content_of) (defScope s_content_of) .none kV_content_of dc_content_of pm_content_of an_content_of cd_content_of ct_content_of), sl_content_of⟩)
    (c__content_of : PySem.W.codeIn K cd_content_of "content_of" = true)
    (k__content_of : PySem.W.keepIn K (.ref a_content_of) = true)
    (a__eliminated : PySem.W.nsIn K mainGlobals "eliminated" = some (some (.ref a_eliminated)))
    (l__eliminated : K.lookup a_eliminated = some ⟨oc_eliminated, od_eliminated, .func (PySem.W.fnOf "eliminated" "eliminated" (defArgs s_eliminated) (defBody s_eliminated) (defScope s_eliminated) .none kV_eliminated dc_eliminated pm_eliminated an_eliminated cd_eliminated ct_eliminated), sl_eliminated⟩)
    (c__eliminated : PySem.W.codeIn K cd_eliminated "eliminated" = true)
    (k__eliminated : PySem.W.keepIn K (.ref a_eliminated) = true)
    (a__first_with : PySem.W.nsIn K mainGlobals "first_with" = some (some (.ref a_first_with)))
    (l__first_with : K.lookup a_first_with = some ⟨oc_first_with, od_first_with, .func (PySem.W.fnOf "first_with" "first_with" (defArgs s_first_with) (defBody s_first_with) (defScope s_first_with) .none kV_first_with dc_first_with pm_first_with an_first_with cd_first_with ct_first_with), sl_first_with⟩)
    (c__first_with : PySem.W.codeIn K cd_first_with "first_with" = true)
    (k__first_with : PySem.W.keepIn K (.ref a_first_with) = true)
    (a__stepped : PySem.W.nsIn K mainGlobals "stepped" = some (some (.ref a_stepped)))
    (l__stepped : K.lookup a_stepped = some ⟨oc_stepped, od_stepped, .func (PySem.W.fnOf "stepped" "stepped" (defArgs s_stepped) (defBody s_stepped) (defScope s_stepped) .none kV_stepped dc_stepped pm_stepped an_stepped cd_stepped ct_stepped), sl_stepped⟩)
    (c__stepped : PySem.W.codeIn K cd_stepped "stepped" = true)
    (k__stepped : PySem.W.keepIn K (.ref a_stepped) = true)
    (a__is_row : PySem.W.nsIn K mainGlobals "is_row" = some (some (.ref a_is_row)))
    (l__is_row : K.lookup a_is_row = some ⟨oc_is_row, od_is_row, .func (PySem.W.fnOf "is_row" "is_row" (defArgs s_is_row) (defBody s_is_row) (defScope s_is_row) .none kV_is_row dc_is_row pm_is_row an_is_row cd_is_row ct_is_row), sl_is_row⟩)
    (c__is_row : PySem.W.codeIn K cd_is_row "is_row" = true)
    (k__is_row : PySem.W.keepIn K (.ref a_is_row) = true)
    (a__are_rows : PySem.W.nsIn K mainGlobals "are_rows" = some (some (.ref a_are_rows)))
    (l__are_rows : K.lookup a_are_rows = some ⟨oc_are_rows, od_are_rows, .func (PySem.W.fnOf "are_rows" "are_rows" (defArgs s_are_rows) (defBody s_are_rows) (defScope s_are_rows) .none kV_are_rows dc_are_rows pm_are_rows an_are_rows cd_are_rows ct_are_rows), sl_are_rows⟩)
    (c__are_rows : PySem.W.codeIn K cd_are_rows "are_rows" = true)
    (k__are_rows : PySem.W.keepIn K (.ref a_are_rows) = true)
    (a__need_row : PySem.W.nsIn K mainGlobals "need_row" = some (some (.ref a_need_row)))
    (l__need_row : K.lookup a_need_row = some ⟨oc_need_row, od_need_row, .func (PySem.W.fnOf "need_row" "need_row" (defArgs s_need_row) (defBody s_need_row) (defScope s_need_row) .none kV_need_row dc_need_row pm_need_row an_need_row cd_need_row ct_need_row), sl_need_row⟩)
    (c__need_row : PySem.W.codeIn K cd_need_row "need_row" = true)
    (k__need_row : PySem.W.keepIn K (.ref a_need_row) = true)
    (a__need_rows : PySem.W.nsIn K mainGlobals "need_rows" = some (some (.ref a_need_rows)))
    (l__need_rows : K.lookup a_need_rows = some ⟨oc_need_rows, od_need_rows, .func (PySem.W.fnOf "need_rows" "need_rows" (defArgs s_need_rows) (defBody s_need_rows) (defScope s_need_rows) .none kV_need_rows dc_need_rows pm_need_rows an_need_rows cd_need_rows ct_need_rows), sl_need_rows⟩)
    (c__need_rows : PySem.W.codeIn K cd_need_rows "need_rows" = true)
    (k__need_rows : PySem.W.keepIn K (.ref a_need_rows) = true)
    (a__need_pair : PySem.W.nsIn K mainGlobals "need_pair" = some (some (.ref a_need_pair)))
    (l__need_pair : K.lookup a_need_pair = some ⟨oc_need_pair, od_need_pair, .func (PySem.W.fnOf "need_pair" "need_pair" (defArgs s_need_pair) (defBody s_need_pair) (defScope s_need_pair) .none kV_need_pair dc_need_pair pm_need_pair an_need_pair cd_need_pair ct_need_pair), sl_need_pair⟩)
    (c__need_pair : PySem.W.codeIn K cd_need_pair "need_pair" = true)
    (k__need_pair : PySem.W.keepIn K (.ref a_need_pair) = true)
    (a__need_goal : PySem.W.nsIn K mainGlobals "need_goal" = some (some (.ref a_need_goal)))
    (l__need_goal : K.lookup a_need_goal = some ⟨oc_need_goal, od_need_goal, .func (PySem.W.fnOf "need_goal" "need_goal" (defArgs s_need_goal) (defBody s_need_goal) (defScope s_need_goal) .none kV_need_goal dc_need_goal pm_need_goal an_need_goal cd_need_goal ct_need_goal), sl_need_goal⟩)
    (c__need_goal : PySem.W.codeIn K cd_need_goal "need_goal" = true)
    (k__need_goal : PySem.W.keepIn K (.ref a_need_goal) = true)
    (a__need_same : PySem.W.nsIn K mainGlobals "need_same" = some (some (.ref a_need_same)))
    (l__need_same : K.lookup a_need_same = some ⟨oc_need_same, od_need_same, .func (PySem.W.fnOf "need_same" "need_same" (defArgs s_need_same) (defBody s_need_same) (defScope s_need_same) .none kV_need_same dc_need_same pm_need_same an_need_same cd_need_same ct_need_same), sl_need_same⟩)
    (c__need_same : PySem.W.codeIn K cd_need_same "need_same" = true)
    (k__need_same : PySem.W.keepIn K (.ref a_need_same) = true)
    (a__plus : PySem.W.nsIn K mainGlobals "plus" = some (some (.ref a_plus)))
    (l__plus : K.lookup a_plus = some ⟨oc_plus, od_plus, .func (PySem.W.fnOf "plus" "plus" (defArgs s_plus) (defBody s_plus) (defScope s_plus) .none kV_plus dc_plus pm_plus an_plus cd_plus ct_plus), sl_plus⟩)
    (c__plus : PySem.W.codeIn K cd_plus "plus" = true)
    (k__plus : PySem.W.keepIn K (.ref a_plus) = true)
    (a__less : PySem.W.nsIn K mainGlobals "less" = some (some (.ref a_less)))
    (l__less : K.lookup a_less = some ⟨oc_less, od_less, .func (PySem.W.fnOf "less" "less" (defArgs s_less) (defBody s_less) (defScope s_less) .none kV_less dc_less pm_less an_less cd_less ct_less), sl_less⟩)
    (c__less : PySem.W.codeIn K cd_less "less" = true)
    (k__less : PySem.W.keepIn K (.ref a_less) = true)
    (a__dot : PySem.W.nsIn K mainGlobals "dot" = some (some (.ref a_dot)))
    (l__dot : K.lookup a_dot = some ⟨oc_dot, od_dot, .func (PySem.W.fnOf "dot" "dot" (defArgs s_dot) (defBody s_dot) (defScope s_dot) .none kV_dot dc_dot pm_dot an_dot cd_dot ct_dot), sl_dot⟩)
    (c__dot : PySem.W.codeIn K cd_dot "dot" = true)
    (k__dot : PySem.W.keepIn K (.ref a_dot) = true)
    (a__multiple : PySem.W.nsIn K mainGlobals "multiple" = some (some (.ref a_multiple)))
    (l__multiple : K.lookup a_multiple = some ⟨oc_multiple, od_multiple, .func (PySem.W.fnOf "multiple" "multiple" (defArgs s_multiple) (defBody s_multiple) (defScope s_multiple) .none kV_multiple dc_multiple pm_multiple an_multiple cd_multiple ct_multiple), sl_multiple⟩)
    (c__multiple : PySem.W.codeIn K cd_multiple "multiple" = true)
    (k__multiple : PySem.W.keepIn K (.ref a_multiple) = true)
    (a__content : PySem.W.nsIn K mainGlobals "content" = some (some (.ref a_content)))
    (l__content : K.lookup a_content = some ⟨oc_content, od_content, .func (PySem.W.fnOf "content" "content" (defArgs s_content) (defBody s_content) (defScope s_content) .none kV_content dc_content pm_content an_content cd_content ct_content), sl_content⟩)
    (c__content : PySem.W.codeIn K cd_content "content" = true)
    (k__content : PySem.W.keepIn K (.ref a_content) = true)
    (a__primitive : PySem.W.nsIn K mainGlobals "primitive" = some (some (.ref a_primitive)))
    (l__primitive : K.lookup a_primitive = some ⟨oc_primitive, od_primitive, .func (PySem.W.fnOf "primitive" "primitive" (defArgs s_primitive) (defBody s_primitive) (defScope s_primitive) .none kV_primitive dc_primitive pm_primitive an_primitive cd_primitive ct_primitive), sl_primitive⟩)
    (c__primitive : PySem.W.codeIn K cd_primitive "primitive" = true)
    (k__primitive : PySem.W.keepIn K (.ref a_primitive) = true)
    (a__determinant : PySem.W.nsIn K mainGlobals "determinant" = some (some (.ref a_determinant)))
    (l__determinant : K.lookup a_determinant = some ⟨oc_determinant, od_determinant, .func (PySem.W.fnOf "determinant" "determinant" (defArgs s_determinant) (defBody s_determinant) (defScope s_determinant) .none kV_determinant dc_determinant pm_determinant an_determinant cd_determinant ct_determinant), sl_determinant⟩)
    (c__determinant : PySem.W.codeIn K cd_determinant "determinant" = true)
    (k__determinant : PySem.W.keepIn K (.ref a_determinant) = true)
    (a__rank : PySem.W.nsIn K mainGlobals "rank" = some (some (.ref a_rank)))
    (l__rank : K.lookup a_rank = some ⟨oc_rank, od_rank, .func (PySem.W.fnOf "rank" "rank" (defArgs s_rank) (defBody s_rank) (defScope s_rank) .none kV_rank dc_rank pm_rank an_rank cd_rank ct_rank), sl_rank⟩)
    (c__rank : PySem.W.codeIn K cd_rank "rank" = true)
    (k__rank : PySem.W.keepIn K (.ref a_rank) = true)
    (a__basis : PySem.W.nsIn K mainGlobals "basis" = some (some (.ref a_basis)))
    (l__basis : K.lookup a_basis = some ⟨oc_basis, od_basis, .func (PySem.W.fnOf "basis" "basis" (defArgs s_basis) (defBody s_basis) (defScope s_basis) .none kV_basis dc_basis pm_basis an_basis cd_basis ct_basis), sl_basis⟩)
    (c__basis : PySem.W.codeIn K cd_basis "basis" = true)
    (k__basis : PySem.W.keepIn K (.ref a_basis) = true)
    (a__kernel : PySem.W.nsIn K mainGlobals "kernel" = some (some (.ref a_kernel)))
    (l__kernel : K.lookup a_kernel = some ⟨oc_kernel, od_kernel, .func (PySem.W.fnOf "kernel" "kernel" (defArgs s_kernel) (defBody s_kernel) (defScope s_kernel) .none kV_kernel dc_kernel pm_kernel an_kernel cd_kernel ct_kernel), sl_kernel⟩)
    (c__kernel : PySem.W.codeIn K cd_kernel "kernel" = true)
    (k__kernel : PySem.W.keepIn K (.ref a_kernel) = true)
    (a__parts_or_form : PySem.W.nsIn K mainGlobals "parts_or_form" = some (some (.ref a_parts_or_form)))
    (l__parts_or_form : K.lookup a_parts_or_form = some ⟨oc_parts_or_form, od_parts_or_form, .func (PySem.W.fnOf "parts_or_form" "parts_or_form" (defArgs s_parts_or_form) (defBody s_parts_or_form) (defScope s_parts_or_form) .none kV_parts_or_form dc_parts_or_form pm_parts_or_form an_parts_or_form cd_parts_or_form ct_parts_or_form), sl_parts_or_form⟩)
    (c__parts_or_form : PySem.W.codeIn K cd_parts_or_form "parts_or_form" = true)
    (k__parts_or_form : PySem.W.keepIn K (.ref a_parts_or_form) = true)
    (a__is_parts_or_form : PySem.W.nsIn K mainGlobals "is_parts_or_form" = some (some (.ref a_is_parts_or_form)))
    (l__is_parts_or_form : K.lookup a_is_parts_or_form = some ⟨oc_is_parts_or_form, od_is_parts_or_form, .func (PySem.W.fnOf "is_parts_or_form" "is_parts_or_form" (defArgs s_is_parts_or_form) (defBody s_is_parts_or_form) (defScope s_is_parts_or_form) .none kV_is_parts_or_form dc_is_parts_or_form pm_is_parts_or_form an_is_parts_or_form cd_is_parts_or_form ct_is_parts_or_form), sl_is_parts_or_form⟩)
    (c__is_parts_or_form : PySem.W.codeIn K cd_is_parts_or_form "is_parts_or_form" = true)
    (k__is_parts_or_form : PySem.W.keepIn K (.ref a_is_parts_or_form) = true)
    (a__is_test : PySem.W.nsIn K mainGlobals "is_test" = some (some (.ref a_is_test)))
    (l__is_test : K.lookup a_is_test = some ⟨oc_is_test, od_is_test, .func (PySem.W.fnOf "is_test" "is_test" (defArgs s_is_test) (defBody s_is_test) (defScope s_is_test) .none kV_is_test dc_is_test pm_is_test an_is_test cd_is_test ct_is_test), sl_is_test⟩)
    (c__is_test : PySem.W.codeIn K cd_is_test "is_test" = true)
    (k__is_test : PySem.W.keepIn K (.ref a_is_test) = true)
    (a__whole_or_test : PySem.W.nsIn K mainGlobals "whole_or_test" = some (some (.ref a_whole_or_test)))
    (l__whole_or_test : K.lookup a_whole_or_test = some ⟨oc_whole_or_test, od_whole_or_test, .func (PySem.W.fnOf "whole_or_test" "whole_or_test" (defArgs s_whole_or_test) (defBody s_whole_or_test) (defScope s_whole_or_test) .none kV_whole_or_test dc_whole_or_test pm_whole_or_test an_whole_or_test cd_whole_or_test ct_whole_or_test), sl_whole_or_test⟩)
    (c__whole_or_test : PySem.W.codeIn K cd_whole_or_test "whole_or_test" = true)
    (k__whole_or_test : PySem.W.keepIn K (.ref a_whole_or_test) = true)
    (a__is_whole_or_test : PySem.W.nsIn K mainGlobals "is_whole_or_test" = some (some (.ref a_is_whole_or_test)))
    (l__is_whole_or_test : K.lookup a_is_whole_or_test = some ⟨oc_is_whole_or_test, od_is_whole_or_test, .func (PySem.W.fnOf "is_whole_or_test" "is_whole_or_test" (defArgs s_is_whole_or_test) (defBody s_is_whole_or_test) (defScope s_is_whole_or_test) .none kV_is_whole_or_test dc_is_whole_or_test pm_is_whole_or_test an_is_whole_or_test cd_is_whole_or_test ct_is_whole_or_test), sl_is_whole_or_test⟩)
    (c__is_whole_or_test : PySem.W.codeIn K cd_is_whole_or_test "is_whole_or_test" = true)
    (k__is_whole_or_test : PySem.W.keepIn K (.ref a_is_whole_or_test) = true)
    (a___law_pail : PySem.W.nsIn K mainGlobals "_law_pail" = some (some (.ref a__law_pail)))
    (l___law_pail : K.lookup a__law_pail = some ⟨oc__law_pail, od__law_pail, .func (PySem.W.fnOf "_law_pail" "_law_pail" (defArgs s__law_pail) (defBody s__law_pail) (defScope s__law_pail) .none kV__law_pail dc__law_pail pm__law_pail an__law_pail cd__law_pail ct__law_pail), sl__law_pail⟩)
    (c___law_pail : PySem.W.codeIn K cd__law_pail "_law_pail" = true)
    (k___law_pail : PySem.W.keepIn K (.ref a__law_pail) = true)
    (a___law_scooped : PySem.W.nsIn K mainGlobals "_law_scooped" = some (some (.ref a__law_scooped)))
    (l___law_scooped : K.lookup a__law_scooped = some ⟨oc__law_scooped, od__law_scooped, .func (PySem.W.fnOf "_law_scooped" "_law_scooped" (defArgs s__law_scooped) (defBody s__law_scooped) (defScope s__law_scooped) .none kV__law_scooped dc__law_scooped pm__law_scooped an__law_scooped cd__law_scooped ct__law_scooped), sl__law_scooped⟩)
    (c___law_scooped : PySem.W.codeIn K cd__law_scooped "_law_scooped" = true)
    (k___law_scooped : PySem.W.keepIn K (.ref a__law_scooped) = true)
    (a___law_any_of : PySem.W.nsIn K mainGlobals "_law_any_of" = some (some (.ref a__law_any_of)))
    (l___law_any_of : K.lookup a__law_any_of = some ⟨oc__law_any_of, od__law_any_of, .func (PySem.W.fnOf "_law_any_of" "_law_any_of" (defArgs s__law_any_of) (defBody s__law_any_of) (defScope s__law_any_of) .none kV__law_any_of dc__law_any_of pm__law_any_of an__law_any_of cd__law_any_of ct__law_any_of), sl__law_any_of⟩)
    (c___law_any_of : PySem.W.codeIn K cd__law_any_of "_law_any_of" = true)
    (k___law_any_of : PySem.W.keepIn K (.ref a__law_any_of) = true)
    (a___law_met : PySem.W.nsIn K mainGlobals "_law_met" = some (some (.ref a__law_met)))
    (l___law_met : K.lookup a__law_met = some ⟨oc__law_met, od__law_met, .func (PySem.W.fnOf "_law_met" "_law_met" (defArgs s__law_met) (defBody s__law_met) (defScope s__law_met) .none kV__law_met dc__law_met pm__law_met an__law_met cd__law_met ct__law_met), sl__law_met⟩)
    (c___law_met : PySem.W.codeIn K cd__law_met "_law_met" = true)
    (k___law_met : PySem.W.keepIn K (.ref a__law_met) = true)
    (a___law_right : PySem.W.nsIn K mainGlobals "_law_right" = some (some (.ref a__law_right)))
    (l___law_right : K.lookup a__law_right = some ⟨oc__law_right, od__law_right, .func (PySem.W.fnOf "_law_right" "_law_right" (defArgs s__law_right) (defBody s__law_right) (defScope s__law_right) .none kV__law_right dc__law_right pm__law_right an__law_right (.ref c__law_right) ct__law_right), sl__law_right⟩)
    (c___law_right : PySem.W.codeIn K (.ref c__law_right) "_law_right" = true)
    (k___law_right : PySem.W.keepIn K (.ref a__law_right) = true)
    (lc__law_right : K.lookup c__law_right = some ⟨lo__law_right, ld__law_right, .fields lv__law_right, ls__law_right⟩)
    (lp__law_right : (lv__law_right[11]? : Option Value) = some (.ref P__law_right))
    (np__law_right : K.lookup P__law_right = none)
    (rf__law_right : ((recsOf q).find? fun e => e.name == ("_law_right" : Str)).isSome = true)
    (a__law : PySem.W.nsIn K mainGlobals "law" = some (some (.ref a_law)))
    (l__law : K.lookup a_law = some ⟨oc_law, od_law, .func (PySem.W.fnOf "law" "law" (defArgs s_law) (defBody s_law) (defScope s_law) .none kV_law dc_law pm_law an_law (.ref c_law) ct_law), sl_law⟩)
    (c__law : PySem.W.codeIn K (.ref c_law) "law" = true)
    (k__law : PySem.W.keepIn K (.ref a_law) = true)
    (lc_law : K.lookup c_law = some ⟨lo_law, ld_law, .fields lv_law, ls_law⟩)
    (lp_law : (lv_law[11]? : Option Value) = some (.ref P_law))
    (np_law : K.lookup P_law = none)
    (rf_law : ((recsOf q).find? fun e => e.name == ("law" : Str)).isSome = true)
    (pn__law_right_law : P__law_right ≠ P_law)
    (z_isinstance : PySem.W.nsIn K mainGlobals "isinstance" = some none)
    (z_int : PySem.W.nsIn K mainGlobals "int" = some none)
    (z_bool : PySem.W.nsIn K mainGlobals "bool" = some none)
    (z_tuple : PySem.W.nsIn K mainGlobals "tuple" = some none)
    (z_list : PySem.W.nsIn K mainGlobals "list" = some none)
    (z_len : PySem.W.nsIn K mainGlobals "len" = some none)
    (z_sum : PySem.W.nsIn K mainGlobals "sum" = some none)
    (z_all : PySem.W.nsIn K mainGlobals "all" = some none)
    (z_any : PySem.W.nsIn K mainGlobals "any" = some none)
    (z_zip : PySem.W.nsIn K mainGlobals "zip" = some none)
    (z_max : PySem.W.nsIn K mainGlobals "max" = some none)
    (z_min : PySem.W.nsIn K mainGlobals "min" = some none)
    (z_abs : PySem.W.nsIn K mainGlobals "abs" = some none)
    (z_range : PySem.W.nsIn K mainGlobals "range" = some none)
    (z_enumerate : PySem.W.nsIn K mainGlobals "enumerate" = some none)
    (z_reversed : PySem.W.nsIn K mainGlobals "reversed" = some none)
    (z_sorted : PySem.W.nsIn K mainGlobals "sorted" = some none)
    (z_str : PySem.W.nsIn K mainGlobals "str" = some none)
    (z_repr : PySem.W.nsIn K mainGlobals "repr" = some none)
    (x__gcd : PySem.W.nsIn K mainGlobals "gcd" = some (some (.builtin "math.gcd")))
    (k_InvalidRow : PySem.W.keepIn K (.ref a_InvalidRow) = true)
    (be_InvalidRow : PySem.W.subIn K (.ref a_InvalidRow) (.type "BaseException") = some true)
    (ty_InvalidRow : PySem.W.typeIn K (.ref a_InvalidRow) = some (.type "type"))
    (ic_InvalidRow : PySem.W.isClsIn K a_InvalidRow = true)
    (x_InvalidRow : PySem.W.excIn K a_InvalidRow [.type "ValueError", .type "Exception", .type "BaseException", .type "object"] "ValueError.__new__" = true)
    (k_InvalidOperation : PySem.W.keepIn K (.ref a_InvalidOperation) = true)
    (be_InvalidOperation : PySem.W.subIn K (.ref a_InvalidOperation) (.type "BaseException") = some true)
    (ty_InvalidOperation : PySem.W.typeIn K (.ref a_InvalidOperation) = some (.type "type"))
    (ic_InvalidOperation : PySem.W.isClsIn K a_InvalidOperation = true)
    (x_InvalidOperation : PySem.W.excIn K a_InvalidOperation [.type "ValueError", .type "Exception", .type "BaseException", .type "object"] "ValueError.__new__" = true)
    (k_InvalidNumber : PySem.W.keepIn K (.ref a_InvalidNumber) = true)
    (be_InvalidNumber : PySem.W.subIn K (.ref a_InvalidNumber) (.type "BaseException") = some true)
    (ty_InvalidNumber : PySem.W.typeIn K (.ref a_InvalidNumber) = some (.type "type"))
    (ic_InvalidNumber : PySem.W.isClsIn K a_InvalidNumber = true)
    (ol_InvalidNumber : ∃ nm q N bs sn sub ab col dd k0 k1 k2 k3 k5, K.lookup a_InvalidNumber = some (PySem.excClassObj nm q a_InvalidNumber N bs [.type "IndexError", .type "LookupError", .type "Exception", .type "BaseException", .type "object"] true sn sub ab col dd k0 k1 k2 k3 k5 "IndexError.__new__"))
    (os_InvalidNumber : PySem.W.findIn K (.ref a_InvalidNumber) "__setattr__" = some (some (.builtin "object.__setattr__")))
    (ot_InvalidNumber : PySem.W.typeIn K (.ref a_InvalidNumberu_initu) = some (.type "function"))
    (nf_InvalidNumber : PySem.W.findIn K (.ref a_InvalidNumber) "given" = some none)
    (ga_InvalidNumber : PySem.W.findIn K (.ref a_InvalidNumber) "__getattribute__" = some (some (.builtin "BaseException.__getattribute__")))
    (gg_InvalidNumber : PySem.W.findIn K (.ref a_InvalidNumber) "__getattr__" = some none)
    (hc_InvalidNumber : PySem.W.hasDictIn K a_InvalidNumber = true)
    (k_Refused : PySem.W.keepIn K (.ref a_Refused) = true)
    (be_Refused : PySem.W.subIn K (.ref a_Refused) (.type "BaseException") = some true)
    (ty_Refused : PySem.W.typeIn K (.ref a_Refused) = some (.type "type"))
    (ic_Refused : PySem.W.isClsIn K a_Refused = true)
    (ol_Refused : ∃ nm q N bs sn sub ab col dd k0 k1 k2 k3 k5, K.lookup a_Refused = some (PySem.excClassObj nm q a_Refused N bs [.type "ArithmeticError", .type "Exception", .type "BaseException", .type "object"] true sn sub ab col dd k0 k1 k2 k3 k5 "ArithmeticError.__new__"))
    (os_Refused : PySem.W.findIn K (.ref a_Refused) "__setattr__" = some (some (.builtin "object.__setattr__")))
    (ot_Refused : PySem.W.typeIn K (.ref a_Refusedu_initu) = some (.type "function"))
    (nf_Refused : PySem.W.findIn K (.ref a_Refused) "reason" = some none)
    (ga_Refused : PySem.W.findIn K (.ref a_Refused) "__getattribute__" = some (some (.builtin "BaseException.__getattribute__")))
    (gg_Refused : PySem.W.findIn K (.ref a_Refused) "__getattr__" = some none)
    (hc_Refused : PySem.W.hasDictIn K a_Refused = true)
    (sb_InvalidRow_InvalidRow : PySem.W.subIn K (.ref a_InvalidRow) (.ref a_InvalidRow) = some true)
    (sb_InvalidRow_InvalidOperation : PySem.W.subIn K (.ref a_InvalidRow) (.ref a_InvalidOperation) = some false)
    (sb_InvalidRow_InvalidNumber : PySem.W.subIn K (.ref a_InvalidRow) (.ref a_InvalidNumber) = some false)
    (sb_InvalidRow_Refused : PySem.W.subIn K (.ref a_InvalidRow) (.ref a_Refused) = some false)
    (sb_InvalidOperation_InvalidRow : PySem.W.subIn K (.ref a_InvalidOperation) (.ref a_InvalidRow) = some false)
    (sb_InvalidOperation_InvalidOperation : PySem.W.subIn K (.ref a_InvalidOperation) (.ref a_InvalidOperation) = some true)
    (sb_InvalidOperation_InvalidNumber : PySem.W.subIn K (.ref a_InvalidOperation) (.ref a_InvalidNumber) = some false)
    (sb_InvalidOperation_Refused : PySem.W.subIn K (.ref a_InvalidOperation) (.ref a_Refused) = some false)
    (sb_InvalidNumber_InvalidRow : PySem.W.subIn K (.ref a_InvalidNumber) (.ref a_InvalidRow) = some false)
    (sb_InvalidNumber_InvalidOperation : PySem.W.subIn K (.ref a_InvalidNumber) (.ref a_InvalidOperation) = some false)
    (sb_InvalidNumber_InvalidNumber : PySem.W.subIn K (.ref a_InvalidNumber) (.ref a_InvalidNumber) = some true)
    (sb_InvalidNumber_Refused : PySem.W.subIn K (.ref a_InvalidNumber) (.ref a_Refused) = some false)
    (sb_Refused_InvalidRow : PySem.W.subIn K (.ref a_Refused) (.ref a_InvalidRow) = some false)
    (sb_Refused_InvalidOperation : PySem.W.subIn K (.ref a_Refused) (.ref a_InvalidOperation) = some false)
    (sb_Refused_InvalidNumber : PySem.W.subIn K (.ref a_Refused) (.ref a_InvalidNumber) = some false)
    (sb_Refused_Refused : PySem.W.subIn K (.ref a_Refused) (.ref a_Refused) = some true) : LamEndG l q w K 9 63 "script" mg fa := by
  have e := hfa.symm.trans (PySem.W.mg_of X G a__law)
  cases e
  have F_InvalidNumberu_initu := fun_mk (st := s_InvalidNumberu_initu) l__InvalidNumberu_initu c__InvalidNumberu_initu k__InvalidNumberu_initu
  have b_InvalidNumberu_initu := F_InvalidNumberu_initu.binds (ps := ["self", "given"]) fun _ _ _ _ _ _ us hl => match us, hl with | [_, _], _ => rfl
  have F_Refusedu_initu := fun_mk (st := s_Refusedu_initu) l__Refusedu_initu c__Refusedu_initu k__Refusedu_initu
  have b_Refusedu_initu := F_Refusedu_initu.binds (ps := ["self", "reason"]) fun _ _ _ _ _ _ us hl => match us, hl with | [_, _], _ => rfl
  have F_is_whole := fun_mk (st := s_is_whole) l__is_whole c__is_whole k__is_whole
  have b_is_whole := F_is_whole.binds (ps := ["value"]) fun _ _ _ _ _ _ us hl => match us, hl with | [_], _ => rfl
  have F_is_short := fun_mk (st := s_is_short) l__is_short c__is_short k__is_short
  have b_is_short := F_is_short.binds (ps := ["value"]) fun _ _ _ _ _ _ us hl => match us, hl with | [_], _ => rfl
  have F_are_short := fun_mk (st := s_are_short) l__are_short c__are_short k__are_short
  have b_are_short := F_are_short.binds (ps := ["values"]) fun _ _ _ _ _ _ us hl => match us, hl with | [_], _ => rfl
  have F_are_whole := fun_mk (st := s_are_whole) l__are_whole c__are_whole k__are_whole
  have b_are_whole := F_are_whole.binds (ps := ["values"]) fun _ _ _ _ _ _ us hl => match us, hl with | [_], _ => rfl
  have F_is_short_row := fun_mk (st := s_is_short_row) l__is_short_row c__is_short_row k__is_short_row
  have b_is_short_row := F_is_short_row.binds (ps := ["value", "least", "most"]) fun _ _ _ _ _ _ us hl => match us, hl with | [_, _, _], _ => rfl
  have F_is_whole_row := fun_mk (st := s_is_whole_row) l__is_whole_row c__is_whole_row k__is_whole_row
  have b_is_whole_row := F_is_whole_row.binds (ps := ["value", "many"]) fun _ _ _ _ _ _ us hl => match us, hl with | [_, _], _ => rfl
  have F_are_short_rows := fun_mk (st := s_are_short_rows) l__are_short_rows c__are_short_rows k__are_short_rows
  have b_are_short_rows := F_are_short_rows.binds (ps := ["value", "most_rows", "most_length"]) fun _ _ _ _ _ _ us hl => match us, hl with | [_, _, _], _ => rfl
  have F_is_told := fun_mk (st := s_is_told) l__is_told c__is_told k__is_told
  have b_is_told := F_is_told.binds (ps := ["value", "word", "many"]) fun _ _ _ _ _ _ us hl => match us, hl with | [_, _, _], _ => rfl
  have F_need_number := fun_mk (st := s_need_number) l__need_number c__need_number k__need_number
  have b_need_number := F_need_number.binds (ps := ["number"]) fun _ _ _ _ _ _ us hl => match us, hl with | [_], _ => rfl
  have F_sum_of := fun_mk (st := s_sum_of) l__sum_of c__sum_of k__sum_of
  have b_sum_of := F_sum_of.binds (ps := ["one", "other"]) fun _ _ _ _ _ _ us hl => match us, hl with | [_, _], _ => rfl
  have F_times := fun_mk (st := s_times) l__times c__times k__times
  have b_times := F_times.binds (ps := ["row", "number"]) fun _ _ _ _ _ _ us hl => match us, hl with | [_, _], _ => rfl
  have F_content_of := fun_mk (st := s_content_of) l__content_of c__content_of k__content_of
  have b_content_of := F_content_of.binds (ps := ["row"]) fun _ _ _ _ _ _ us hl => match us, hl with | [_], _ => rfl
  have F_eliminated := fun_mk (st := s_eliminated) l__eliminated c__eliminated k__eliminated
  have b_eliminated := F_eliminated.binds (ps := ["rows"]) fun _ _ _ _ _ _ us hl => match us, hl with | [_], _ => rfl
  have F_first_with := fun_mk (st := s_first_with) l__first_with c__first_with k__first_with
  have b_first_with := F_first_with.binds (ps := ["left", "column"]) fun _ _ _ _ _ _ us hl => match us, hl with | [_, _], _ => rfl
  have F_stepped := fun_mk (st := s_stepped) l__stepped c__stepped k__stepped
  have b_stepped := F_stepped.binds (ps := ["row", "head", "column", "last"]) fun _ _ _ _ _ _ us hl => match us, hl with | [_, _, _, _], _ => rfl
  have F_is_row := fun_mk (st := s_is_row) l__is_row c__is_row k__is_row
  have b_is_row := F_is_row.binds (ps := ["value"]) fun _ _ _ _ _ _ us hl => match us, hl with | [_], _ => rfl
  have F_are_rows := fun_mk (st := s_are_rows) l__are_rows c__are_rows k__are_rows
  have b_are_rows := F_are_rows.binds (ps := ["value"]) fun _ _ _ _ _ _ us hl => match us, hl with | [_], _ => rfl
  have F_need_row := fun_mk (st := s_need_row) l__need_row c__need_row k__need_row
  have b_need_row := F_need_row.binds (ps := ["row"]) fun _ _ _ _ _ _ us hl => match us, hl with | [_], _ => rfl
  have F_need_rows := fun_mk (st := s_need_rows) l__need_rows c__need_rows k__need_rows
  have b_need_rows := F_need_rows.binds (ps := ["rows"]) fun _ _ _ _ _ _ us hl => match us, hl with | [_], _ => rfl
  have F_need_pair := fun_mk (st := s_need_pair) l__need_pair c__need_pair k__need_pair
  have b_need_pair := F_need_pair.binds (ps := ["one", "other"]) fun _ _ _ _ _ _ us hl => match us, hl with | [_, _], _ => rfl
  have F_need_goal := fun_mk (st := s_need_goal) l__need_goal c__need_goal k__need_goal
  have b_need_goal := F_need_goal.binds (ps := ["rows", "goal"]) fun _ _ _ _ _ _ us hl => match us, hl with | [_, _], _ => rfl
  have F_need_same := fun_mk (st := s_need_same) l__need_same c__need_same k__need_same
  have b_need_same := F_need_same.binds (ps := ["one", "other"]) fun _ _ _ _ _ _ us hl => match us, hl with | [_, _], _ => rfl
  have F_plus := fun_mk (st := s_plus) l__plus c__plus k__plus
  have b_plus := F_plus.binds (ps := ["one", "other"]) fun _ _ _ _ _ _ us hl => match us, hl with | [_, _], _ => rfl
  have F_less := fun_mk (st := s_less) l__less c__less k__less
  have b_less := F_less.binds (ps := ["one", "other"]) fun _ _ _ _ _ _ us hl => match us, hl with | [_, _], _ => rfl
  have F_dot := fun_mk (st := s_dot) l__dot c__dot k__dot
  have b_dot := F_dot.binds (ps := ["one", "other"]) fun _ _ _ _ _ _ us hl => match us, hl with | [_, _], _ => rfl
  have F_multiple := fun_mk (st := s_multiple) l__multiple c__multiple k__multiple
  have b_multiple := F_multiple.binds (ps := ["row", "number"]) fun _ _ _ _ _ _ us hl => match us, hl with | [_, _], _ => rfl
  have F_content := fun_mk (st := s_content) l__content c__content k__content
  have b_content := F_content.binds (ps := ["row"]) fun _ _ _ _ _ _ us hl => match us, hl with | [_], _ => rfl
  have F_primitive := fun_mk (st := s_primitive) l__primitive c__primitive k__primitive
  have b_primitive := F_primitive.binds (ps := ["row"]) fun _ _ _ _ _ _ us hl => match us, hl with | [_], _ => rfl
  have F_determinant := fun_mk (st := s_determinant) l__determinant c__determinant k__determinant
  have b_determinant := F_determinant.binds (ps := ["rows"]) fun _ _ _ _ _ _ us hl => match us, hl with | [_], _ => rfl
  have F_rank := fun_mk (st := s_rank) l__rank c__rank k__rank
  have b_rank := F_rank.binds (ps := ["rows"]) fun _ _ _ _ _ _ us hl => match us, hl with | [_], _ => rfl
  have F_basis := fun_mk (st := s_basis) l__basis c__basis k__basis
  have b_basis := F_basis.binds (ps := ["rows"]) fun _ _ _ _ _ _ us hl => match us, hl with | [_], _ => rfl
  have F_kernel := fun_mk (st := s_kernel) l__kernel c__kernel k__kernel
  have b_kernel := F_kernel.binds (ps := ["rows"]) fun _ _ _ _ _ _ us hl => match us, hl with | [_], _ => rfl
  have F_parts_or_form := fun_mk (st := s_parts_or_form) l__parts_or_form c__parts_or_form k__parts_or_form
  have b_parts_or_form := F_parts_or_form.binds (ps := ["rows", "goal"]) fun _ _ _ _ _ _ us hl => match us, hl with | [_, _], _ => rfl
  have F_is_parts_or_form := fun_mk (st := s_is_parts_or_form) l__is_parts_or_form c__is_parts_or_form k__is_parts_or_form
  have b_is_parts_or_form := F_is_parts_or_form.binds (ps := ["rows", "goal", "value"]) fun _ _ _ _ _ _ us hl => match us, hl with | [_, _, _], _ => rfl
  have F_is_test := fun_mk (st := s_is_test) l__is_test c__is_test k__is_test
  have b_is_test := F_is_test.binds (ps := ["rows", "goal", "form", "m"]) fun _ _ _ _ _ _ us hl => match us, hl with | [_, _, _, _], _ => rfl
  have F_whole_or_test := fun_mk (st := s_whole_or_test) l__whole_or_test c__whole_or_test k__whole_or_test
  have b_whole_or_test := F_whole_or_test.binds (ps := ["rows", "goal"]) fun _ _ _ _ _ _ us hl => match us, hl with | [_, _], _ => rfl
  have F_is_whole_or_test := fun_mk (st := s_is_whole_or_test) l__is_whole_or_test c__is_whole_or_test k__is_whole_or_test
  have b_is_whole_or_test := F_is_whole_or_test.binds (ps := ["rows", "goal", "value"]) fun _ _ _ _ _ _ us hl => match us, hl with | [_, _, _], _ => rfl
  have F__law_pail := fun_mk (st := s__law_pail) l___law_pail c___law_pail k___law_pail
  have b__law_pail := F__law_pail.binds (ps := ["script", "spot"]) fun _ _ _ _ _ _ us hl => match us, hl with | [_, _], _ => rfl
  have F__law_scooped := fun_mk (st := s__law_scooped) l___law_scooped c___law_scooped k___law_scooped
  have b__law_scooped := F__law_scooped.binds (ps := ["pail", "total"]) fun _ _ _ _ _ _ us hl => match us, hl with | [_, _], _ => rfl
  have F__law_any_of := fun_mk (st := s__law_any_of) l___law_any_of c___law_any_of k___law_any_of
  have b__law_any_of := F__law_any_of.binds (ps := ["pail", "items"]) fun _ _ _ _ _ _ us hl => match us, hl with | [_, _], _ => rfl
  have F__law_met := fun_mk (st := s__law_met) l___law_met c___law_met k___law_met
  have b__law_met := F__law_met.binds (ps := ["call"]) fun _ _ _ _ _ _ us hl => match us, hl with | [_], _ => rfl
  have F__law_right := fun_mk (st := s__law_right) l___law_right c___law_right k___law_right
  have b__law_right := F__law_right.binds (ps := ["pail"]) fun _ _ _ _ _ _ us hl => match us, hl with | [_], _ => rfl
  have F_law := fun_mk (st := s_law) l__law c__law k__law
  have b_law := F_law.binds (ps := ["script"]) fun _ _ _ _ _ _ us hl => match us, hl with | [_], _ => rfl
  let T : Txt K mg := { a_InvalidNumberu_initu := a_InvalidNumberu_initu, d_InvalidNumberu_initu := _, F_InvalidNumberu_initu := F_InvalidNumberu_initu, b_InvalidNumberu_initu := b_InvalidNumberu_initu, a_Refusedu_initu := a_Refusedu_initu, d_Refusedu_initu := _, F_Refusedu_initu := F_Refusedu_initu, b_Refusedu_initu := b_Refusedu_initu, a_is_whole := a_is_whole, d_is_whole := _, F_is_whole := F_is_whole, b_is_whole := b_is_whole, m_is_whole := PySem.W.mg_of X G a__is_whole, k_is_whole := k__is_whole, a_is_short := a_is_short, d_is_short := _, F_is_short := F_is_short, b_is_short := b_is_short, m_is_short := PySem.W.mg_of X G a__is_short, k_is_short := k__is_short, a_are_short := a_are_short, d_are_short := _, F_are_short := F_are_short, b_are_short := b_are_short, m_are_short := PySem.W.mg_of X G a__are_short, k_are_short := k__are_short, a_are_whole := a_are_whole, d_are_whole := _, F_are_whole := F_are_whole, b_are_whole := b_are_whole, m_are_whole := PySem.W.mg_of X G a__are_whole, k_are_whole := k__are_whole, a_is_short_row := a_is_short_row, d_is_short_row := _, F_is_short_row := F_is_short_row, b_is_short_row := b_is_short_row, m_is_short_row := PySem.W.mg_of X G a__is_short_row, k_is_short_row := k__is_short_row, a_is_whole_row := a_is_whole_row, d_is_whole_row := _, F_is_whole_row := F_is_whole_row, b_is_whole_row := b_is_whole_row, m_is_whole_row := PySem.W.mg_of X G a__is_whole_row, k_is_whole_row := k__is_whole_row, a_are_short_rows := a_are_short_rows, d_are_short_rows := _, F_are_short_rows := F_are_short_rows, b_are_short_rows := b_are_short_rows, m_are_short_rows := PySem.W.mg_of X G a__are_short_rows, k_are_short_rows := k__are_short_rows, a_is_told := a_is_told, d_is_told := _, F_is_told := F_is_told, b_is_told := b_is_told, m_is_told := PySem.W.mg_of X G a__is_told, k_is_told := k__is_told, a_need_number := a_need_number, d_need_number := _, F_need_number := F_need_number, b_need_number := b_need_number, m_need_number := PySem.W.mg_of X G a__need_number, k_need_number := k__need_number, a_sum_of := a_sum_of, d_sum_of := _, F_sum_of := F_sum_of, b_sum_of := b_sum_of, m_sum_of := PySem.W.mg_of X G a__sum_of, k_sum_of := k__sum_of, a_times := a_times, d_times := _, F_times := F_times, b_times := b_times, m_times := PySem.W.mg_of X G a__times, k_times := k__times, a_content_of := a_content_of, d_content_of := _, F_content_of := F_content_of, b_content_of := b_content_of, m_content_of := PySem.W.mg_of X G a__content_of, k_content_of := k__content_of, a_eliminated := a_eliminated, d_eliminated := _, F_eliminated := F_eliminated, b_eliminated := b_eliminated, m_eliminated := PySem.W.mg_of X G a__eliminated, k_eliminated := k__eliminated, a_first_with := a_first_with, d_first_with := _, F_first_with := F_first_with, b_first_with := b_first_with, m_first_with := PySem.W.mg_of X G a__first_with, k_first_with := k__first_with, a_stepped := a_stepped, d_stepped := _, F_stepped := F_stepped, b_stepped := b_stepped, m_stepped := PySem.W.mg_of X G a__stepped, k_stepped := k__stepped, a_is_row := a_is_row, d_is_row := _, F_is_row := F_is_row, b_is_row := b_is_row, m_is_row := PySem.W.mg_of X G a__is_row, k_is_row := k__is_row, a_are_rows := a_are_rows, d_are_rows := _, F_are_rows := F_are_rows, b_are_rows := b_are_rows, m_are_rows := PySem.W.mg_of X G a__are_rows, k_are_rows := k__are_rows, a_need_row := a_need_row, d_need_row := _, F_need_row := F_need_row, b_need_row := b_need_row, m_need_row := PySem.W.mg_of X G a__need_row, k_need_row := k__need_row, a_need_rows := a_need_rows, d_need_rows := _, F_need_rows := F_need_rows, b_need_rows := b_need_rows, m_need_rows := PySem.W.mg_of X G a__need_rows, k_need_rows := k__need_rows, a_need_pair := a_need_pair, d_need_pair := _, F_need_pair := F_need_pair, b_need_pair := b_need_pair, m_need_pair := PySem.W.mg_of X G a__need_pair, k_need_pair := k__need_pair, a_need_goal := a_need_goal, d_need_goal := _, F_need_goal := F_need_goal, b_need_goal := b_need_goal, m_need_goal := PySem.W.mg_of X G a__need_goal, k_need_goal := k__need_goal, a_need_same := a_need_same, d_need_same := _, F_need_same := F_need_same, b_need_same := b_need_same, m_need_same := PySem.W.mg_of X G a__need_same, k_need_same := k__need_same, a_plus := a_plus, d_plus := _, F_plus := F_plus, b_plus := b_plus, m_plus := PySem.W.mg_of X G a__plus, k_plus := k__plus, a_less := a_less, d_less := _, F_less := F_less, b_less := b_less, m_less := PySem.W.mg_of X G a__less, k_less := k__less, a_dot := a_dot, d_dot := _, F_dot := F_dot, b_dot := b_dot, m_dot := PySem.W.mg_of X G a__dot, k_dot := k__dot, a_multiple := a_multiple, d_multiple := _, F_multiple := F_multiple, b_multiple := b_multiple, m_multiple := PySem.W.mg_of X G a__multiple, k_multiple := k__multiple, a_content := a_content, d_content := _, F_content := F_content, b_content := b_content, m_content := PySem.W.mg_of X G a__content, k_content := k__content, a_primitive := a_primitive, d_primitive := _, F_primitive := F_primitive, b_primitive := b_primitive, m_primitive := PySem.W.mg_of X G a__primitive, k_primitive := k__primitive, a_determinant := a_determinant, d_determinant := _, F_determinant := F_determinant, b_determinant := b_determinant, m_determinant := PySem.W.mg_of X G a__determinant, k_determinant := k__determinant, a_rank := a_rank, d_rank := _, F_rank := F_rank, b_rank := b_rank, m_rank := PySem.W.mg_of X G a__rank, k_rank := k__rank, a_basis := a_basis, d_basis := _, F_basis := F_basis, b_basis := b_basis, m_basis := PySem.W.mg_of X G a__basis, k_basis := k__basis, a_kernel := a_kernel, d_kernel := _, F_kernel := F_kernel, b_kernel := b_kernel, m_kernel := PySem.W.mg_of X G a__kernel, k_kernel := k__kernel, a_parts_or_form := a_parts_or_form, d_parts_or_form := _, F_parts_or_form := F_parts_or_form, b_parts_or_form := b_parts_or_form, m_parts_or_form := PySem.W.mg_of X G a__parts_or_form, k_parts_or_form := k__parts_or_form, a_is_parts_or_form := a_is_parts_or_form, d_is_parts_or_form := _, F_is_parts_or_form := F_is_parts_or_form, b_is_parts_or_form := b_is_parts_or_form, m_is_parts_or_form := PySem.W.mg_of X G a__is_parts_or_form, k_is_parts_or_form := k__is_parts_or_form, a_is_test := a_is_test, d_is_test := _, F_is_test := F_is_test, b_is_test := b_is_test, m_is_test := PySem.W.mg_of X G a__is_test, k_is_test := k__is_test, a_whole_or_test := a_whole_or_test, d_whole_or_test := _, F_whole_or_test := F_whole_or_test, b_whole_or_test := b_whole_or_test, m_whole_or_test := PySem.W.mg_of X G a__whole_or_test, k_whole_or_test := k__whole_or_test, a_is_whole_or_test := a_is_whole_or_test, d_is_whole_or_test := _, F_is_whole_or_test := F_is_whole_or_test, b_is_whole_or_test := b_is_whole_or_test, m_is_whole_or_test := PySem.W.mg_of X G a__is_whole_or_test, k_is_whole_or_test := k__is_whole_or_test, a__law_pail := a__law_pail, d__law_pail := _, F__law_pail := F__law_pail, b__law_pail := b__law_pail, m__law_pail := PySem.W.mg_of X G a___law_pail, k__law_pail := k___law_pail, a__law_scooped := a__law_scooped, d__law_scooped := _, F__law_scooped := F__law_scooped, b__law_scooped := b__law_scooped, m__law_scooped := PySem.W.mg_of X G a___law_scooped, k__law_scooped := k___law_scooped, a__law_any_of := a__law_any_of, d__law_any_of := _, F__law_any_of := F__law_any_of, b__law_any_of := b__law_any_of, m__law_any_of := PySem.W.mg_of X G a___law_any_of, k__law_any_of := k___law_any_of, a__law_met := a__law_met, d__law_met := _, F__law_met := F__law_met, b__law_met := b__law_met, m__law_met := PySem.W.mg_of X G a___law_met, k__law_met := k___law_met, a__law_right := a__law_right, d__law_right := _, F__law_right := F__law_right, b__law_right := b__law_right, m__law_right := PySem.W.mg_of X G a___law_right, k__law_right := k___law_right, a_law := fa, d_law := _, F_law := F_law, b_law := b_law, t_BEYOND := t_BEYOND, m_BEYOND := PySem.W.mg_of X G c_BEYOND, t_BENEATH := t_BENEATH, m_BENEATH := PySem.W.mg_of X G c_BENEATH, t_MOST_LENGTH := t_MOST_LENGTH, m_MOST_LENGTH := PySem.W.mg_of X G c_MOST_LENGTH, t_MOST_ROWS := t_MOST_ROWS, m_MOST_ROWS := PySem.W.mg_of X G c_MOST_ROWS, n_isinstance := PySem.W.mg_none_of X G z_isinstance, n_int := PySem.W.mg_none_of X G z_int, n_bool := PySem.W.mg_none_of X G z_bool, n_tuple := PySem.W.mg_none_of X G z_tuple, n_list := PySem.W.mg_none_of X G z_list, n_len := PySem.W.mg_none_of X G z_len, n_sum := PySem.W.mg_none_of X G z_sum, n_all := PySem.W.mg_none_of X G z_all, n_any := PySem.W.mg_none_of X G z_any, n_zip := PySem.W.mg_none_of X G z_zip, n_max := PySem.W.mg_none_of X G z_max, n_min := PySem.W.mg_none_of X G z_min, n_abs := PySem.W.mg_none_of X G z_abs, n_range := PySem.W.mg_none_of X G z_range, n_enumerate := PySem.W.mg_none_of X G z_enumerate, n_reversed := PySem.W.mg_none_of X G z_reversed, n_sorted := PySem.W.mg_none_of X G z_sorted, n_str := PySem.W.mg_none_of X G z_str, n_repr := PySem.W.mg_none_of X G z_repr, a_InvalidRow := a_InvalidRow, m_InvalidRow := PySem.W.mg_of X G n_InvalidRow, k_InvalidRow := k_InvalidRow, be_InvalidRow := be_InvalidRow, ty_InvalidRow := ty_InvalidRow, x_InvalidRow := x_InvalidRow, a_InvalidOperation := a_InvalidOperation, m_InvalidOperation := PySem.W.mg_of X G n_InvalidOperation, k_InvalidOperation := k_InvalidOperation, be_InvalidOperation := be_InvalidOperation, ty_InvalidOperation := ty_InvalidOperation, x_InvalidOperation := x_InvalidOperation, a_InvalidNumber := a_InvalidNumber, m_InvalidNumber := PySem.W.mg_of X G n_InvalidNumber, k_InvalidNumber := k_InvalidNumber, be_InvalidNumber := be_InvalidNumber, ty_InvalidNumber := ty_InvalidNumber, ox_InvalidNumber := ⟨⟨"IndexError", "IndexError.__new__", "IndexError.__init__", _, ⟨PySem.F.excBase_IndexError, PySem.F.store_IndexError, by decide +kernel⟩, ol_InvalidNumber⟩, os_InvalidNumber, be_InvalidNumber, ty_InvalidNumber, k_InvalidNumber⟩, oi_InvalidNumber := a__InvalidNumberu_initu, ot_InvalidNumber := ot_InvalidNumber, nf_InvalidNumber := nf_InvalidNumber, xf_InvalidNumber := ⟨ga_InvalidNumber, gg_InvalidNumber, be_InvalidNumber, hc_InvalidNumber⟩, a_Refused := a_Refused, m_Refused := PySem.W.mg_of X G n_Refused, k_Refused := k_Refused, be_Refused := be_Refused, ty_Refused := ty_Refused, ox_Refused := ⟨⟨"ArithmeticError", "ArithmeticError.__new__", "ArithmeticError.__init__", _, ⟨PySem.F.excBase_ArithmeticError, PySem.F.store_ArithmeticError, by decide +kernel⟩, ol_Refused⟩, os_Refused, be_Refused, ty_Refused, k_Refused⟩, oi_Refused := a__Refusedu_initu, ot_Refused := ot_Refused, nf_Refused := nf_Refused, xf_Refused := ⟨ga_Refused, gg_Refused, be_Refused, hc_Refused⟩, em_InvalidRow_InvalidRow := RW.exm_of be_InvalidRow ic_InvalidRow ty_InvalidRow sb_InvalidRow_InvalidRow, em_InvalidRow_InvalidOperation := RW.exm_of be_InvalidOperation ic_InvalidOperation ty_InvalidOperation sb_InvalidRow_InvalidOperation, em_InvalidRow_InvalidNumber := RW.exm_of be_InvalidNumber ic_InvalidNumber ty_InvalidNumber sb_InvalidRow_InvalidNumber, em_InvalidRow_Refused := RW.exm_of be_Refused ic_Refused ty_Refused sb_InvalidRow_Refused, em_InvalidOperation_InvalidRow := RW.exm_of be_InvalidRow ic_InvalidRow ty_InvalidRow sb_InvalidOperation_InvalidRow, em_InvalidOperation_InvalidOperation := RW.exm_of be_InvalidOperation ic_InvalidOperation ty_InvalidOperation sb_InvalidOperation_InvalidOperation, em_InvalidOperation_InvalidNumber := RW.exm_of be_InvalidNumber ic_InvalidNumber ty_InvalidNumber sb_InvalidOperation_InvalidNumber, em_InvalidOperation_Refused := RW.exm_of be_Refused ic_Refused ty_Refused sb_InvalidOperation_Refused, em_InvalidNumber_InvalidRow := RW.exm_of be_InvalidRow ic_InvalidRow ty_InvalidRow sb_InvalidNumber_InvalidRow, em_InvalidNumber_InvalidOperation := RW.exm_of be_InvalidOperation ic_InvalidOperation ty_InvalidOperation sb_InvalidNumber_InvalidOperation, em_InvalidNumber_InvalidNumber := RW.exm_of be_InvalidNumber ic_InvalidNumber ty_InvalidNumber sb_InvalidNumber_InvalidNumber, em_InvalidNumber_Refused := RW.exm_of be_Refused ic_Refused ty_Refused sb_InvalidNumber_Refused, em_Refused_InvalidRow := RW.exm_of be_InvalidRow ic_InvalidRow ty_InvalidRow sb_Refused_InvalidRow, em_Refused_InvalidOperation := RW.exm_of be_InvalidOperation ic_InvalidOperation ty_InvalidOperation sb_Refused_InvalidOperation, em_Refused_InvalidNumber := RW.exm_of be_InvalidNumber ic_InvalidNumber ty_InvalidNumber sb_Refused_InvalidNumber, em_Refused_Refused := RW.exm_of be_Refused ic_Refused ty_Refused sb_Refused_Refused, c__law_right := c__law_right, P__law_right := P__law_right, lk__law_right := ⟨_, _, _, _, _, _, _, _, rfl, l___law_right, c___law_right⟩, c_law := c_law, P_law := P_law, lk_law := ⟨_, _, _, _, _, _, _, _, rfl, l__law, c__law⟩, pne := by simp [pn__law_right_law], m_gcd := PySem.W.mg_of X G x__gcd }
  refine ⟨_, [(c__law_right, P__law_right), (c_law, P_law)], SpD K (gLaw T), ?_, ?_, fun s v => .of_eq rfl, fun H a ns hl _ hH hS => ?_, fun base _ _ hTB => ok_law T (hTB (c_law, P_law) (by simp)) (hTB (c__law_right, P__law_right) (by simp))⟩
  · intro p hp
    simp only [List.mem_cons, List.not_mem_nil, or_false] at hp
    rcases hp with rfl | rfl
    · obtain ⟨d, hd⟩ := rec_of rf__law_right
      exact ⟨"_law_right", d, hd, tab_in a___law_right l___law_right rfl lc__law_right lp__law_right⟩
    · obtain ⟨d, hd⟩ := rec_of rf_law
      exact ⟨"law", d, hd, tab_in a__law l__law rfl lc_law lp_law⟩
  · intro p hp
    simp only [List.mem_cons, List.not_mem_nil, or_false] at hp
    rcases hp with rfl | rfl
    · exact np__law_right
    · exact np_law
  · obtain ⟨B, c, r⟩ := tabs_start (Ts := tabs T) (by simpa [tabs] using T.pne) (fun p hp => by
      simp only [tabs, List.mem_cons, List.not_mem_nil, or_false] at hp
      rcases hp with rfl | rfl
      · exact hH (c__law_right, P__law_right) (by simp)
      · exact hH (c_law, P_law) (by simp)) hS
    exact ⟨B, _, _, [.d (.scr ns)], .bl true, _, c, .cons r .nil, ⟨ns, rfl, hl, all_tabs, rfl, rfl⟩, fun v B' H' _ _ r => by cases r; rfl⟩
end N03
open PySem PySem.W PyProof.Rows
set_option maxRecDepth 100000 in
set_option maxHeartbeats 0 in
theorem PySem.Challenge.cw_rampworks_k03_errors_of_rows_holds : PySem.Challenge.rw_rampworks_k03_errors_of_rows.Holds := by
  w_on; o_law; k_head; (case hw => w_witness2)
  k_fill
  refine RW.walk_lamG (k := 9) (n := 63) (x := "script") (l := PySem.Challenge.rw_rampworks_k03_errors_of_rows) rfl (by decide) rfl ⟨rfl, by decide, by decide⟩ (fun w h Y => PySem.W.km_in_of Y) ?F
  case F =>
    intro w mg fa h KX G hmg
    refine' N03.all_mk KX G hmg ?c_BEYOND ?c_BENEATH ?c_MOST_LENGTH ?c_MOST_ROWS ?n_InvalidRow ?n_InvalidOperation ?n_InvalidNumber ?n_Refused ?a__InvalidNumberu_initu ?i__InvalidNumberu_initu ?l__InvalidNumberu_initu ?c__InvalidNumberu_initu ?k__InvalidNumberu_initu ?a__Refusedu_initu ?i__Refusedu_initu ?l__Refusedu_initu ?c__Refusedu_initu ?k__Refusedu_initu ?a__is_whole ?l__is_whole ?c__is_whole ?k__is_whole ?a__is_short ?l__is_short ?c__is_short ?k__is_short ?a__are_short ?l__are_short ?c__are_short ?k__are_short ?a__are_whole ?l__are_whole ?c__are_whole ?k__are_whole ?a__is_short_row ?l__is_short_row ?c__is_short_row ?k__is_short_row ?a__is_whole_row ?l__is_whole_row ?c__is_whole_row ?k__is_whole_row ?a__are_short_rows ?l__are_short_rows ?c__are_short_rows ?k__are_short_rows ?a__is_told ?l__is_told ?c__is_told ?k__is_told ?a__need_number ?l__need_number ?c__need_number ?k__need_number ?a__sum_of ?l__sum_of ?c__sum_of ?k__sum_of ?a__times ?l__times ?c__times ?k__times ?a__content_of ?l__content_of ?c__content_of ?k__content_of ?a__eliminated ?l__eliminated ?c__eliminated ?k__eliminated ?a__first_with ?l__first_with ?c__first_with ?k__first_with ?a__stepped ?l__stepped ?c__stepped ?k__stepped ?a__is_row ?l__is_row ?c__is_row ?k__is_row ?a__are_rows ?l__are_rows ?c__are_rows ?k__are_rows ?a__need_row ?l__need_row ?c__need_row ?k__need_row ?a__need_rows ?l__need_rows ?c__need_rows ?k__need_rows ?a__need_pair ?l__need_pair ?c__need_pair ?k__need_pair ?a__need_goal ?l__need_goal ?c__need_goal ?k__need_goal ?a__need_same ?l__need_same ?c__need_same ?k__need_same ?a__plus ?l__plus ?c__plus ?k__plus ?a__less ?l__less ?c__less ?k__less ?a__dot ?l__dot ?c__dot ?k__dot ?a__multiple ?l__multiple ?c__multiple ?k__multiple ?a__content ?l__content ?c__content ?k__content ?a__primitive ?l__primitive ?c__primitive ?k__primitive ?a__determinant ?l__determinant ?c__determinant ?k__determinant ?a__rank ?l__rank ?c__rank ?k__rank ?a__basis ?l__basis ?c__basis ?k__basis ?a__kernel ?l__kernel ?c__kernel ?k__kernel ?a__parts_or_form ?l__parts_or_form ?c__parts_or_form ?k__parts_or_form ?a__is_parts_or_form ?l__is_parts_or_form ?c__is_parts_or_form ?k__is_parts_or_form ?a__is_test ?l__is_test ?c__is_test ?k__is_test ?a__whole_or_test ?l__whole_or_test ?c__whole_or_test ?k__whole_or_test ?a__is_whole_or_test ?l__is_whole_or_test ?c__is_whole_or_test ?k__is_whole_or_test ?a___law_pail ?l___law_pail ?c___law_pail ?k___law_pail ?a___law_scooped ?l___law_scooped ?c___law_scooped ?k___law_scooped ?a___law_any_of ?l___law_any_of ?c___law_any_of ?k___law_any_of ?a___law_met ?l___law_met ?c___law_met ?k___law_met ?a___law_right ?l___law_right ?c___law_right ?k___law_right ?lc__law_right ?lp__law_right ?np__law_right ?rf__law_right ?a__law ?l__law ?c__law ?k__law ?lc_law ?lp_law ?np_law ?rf_law ?pn__law_right_law ?z_isinstance ?z_int ?z_bool ?z_tuple ?z_list ?z_len ?z_sum ?z_all ?z_any ?z_zip ?z_max ?z_min ?z_abs ?z_range ?z_enumerate ?z_reversed ?z_sorted ?z_str ?z_repr ?x__gcd ?k_InvalidRow ?be_InvalidRow ?ty_InvalidRow ?ic_InvalidRow ?x_InvalidRow ?k_InvalidOperation ?be_InvalidOperation ?ty_InvalidOperation ?ic_InvalidOperation ?x_InvalidOperation ?k_InvalidNumber ?be_InvalidNumber ?ty_InvalidNumber ?ic_InvalidNumber ?ol_InvalidNumber ?os_InvalidNumber ?ot_InvalidNumber ?nf_InvalidNumber ?ga_InvalidNumber ?gg_InvalidNumber ?hc_InvalidNumber ?k_Refused ?be_Refused ?ty_Refused ?ic_Refused ?ol_Refused ?os_Refused ?ot_Refused ?nf_Refused ?ga_Refused ?gg_Refused ?hc_Refused ?sb_InvalidRow_InvalidRow ?sb_InvalidRow_InvalidOperation ?sb_InvalidRow_InvalidNumber ?sb_InvalidRow_Refused ?sb_InvalidOperation_InvalidRow ?sb_InvalidOperation_InvalidOperation ?sb_InvalidOperation_InvalidNumber ?sb_InvalidOperation_Refused ?sb_InvalidNumber_InvalidRow ?sb_InvalidNumber_InvalidOperation ?sb_InvalidNumber_InvalidNumber ?sb_InvalidNumber_Refused ?sb_Refused_InvalidRow ?sb_Refused_InvalidOperation ?sb_Refused_InvalidNumber ?sb_Refused_Refused
    (case c_BEYOND => k_is)
    (case c_BENEATH => k_is)
    (case c_MOST_LENGTH => k_is)
    (case c_MOST_ROWS => k_is)
    (case n_InvalidRow => k_is)
    (case n_InvalidOperation => k_is)
    (case n_InvalidNumber => k_is)
    (case n_Refused => k_is)
    (case a__InvalidNumberu_initu => k_is)
    (case i__InvalidNumberu_initu => k_is)
    (case l__InvalidNumberu_initu => k_is)
    (case c__InvalidNumberu_initu => k_is)
    (case k__InvalidNumberu_initu => k_is)
    (case a__Refusedu_initu => k_is)
    (case i__Refusedu_initu => k_is)
    (case l__Refusedu_initu => k_is)
    (case c__Refusedu_initu => k_is)
    (case k__Refusedu_initu => k_is)
    (case a__is_whole => k_is)
    (case l__is_whole => k_is)
    (case c__is_whole => k_is)
    (case k__is_whole => k_is)
    (case a__is_short => k_is)
    (case l__is_short => k_is)
    (case c__is_short => k_is)
    (case k__is_short => k_is)
    (case a__are_short => k_is)
    (case l__are_short => k_is)
    (case c__are_short => k_is)
    (case k__are_short => k_is)
    (case a__are_whole => k_is)
    (case l__are_whole => k_is)
    (case c__are_whole => k_is)
    (case k__are_whole => k_is)
    (case a__is_short_row => k_is)
    (case l__is_short_row => k_is)
    (case c__is_short_row => k_is)
    (case k__is_short_row => k_is)
    (case a__is_whole_row => k_is)
    (case l__is_whole_row => k_is)
    (case c__is_whole_row => k_is)
    (case k__is_whole_row => k_is)
    (case a__are_short_rows => k_is)
    (case l__are_short_rows => k_is)
    (case c__are_short_rows => k_is)
    (case k__are_short_rows => k_is)
    (case a__is_told => k_is)
    (case l__is_told => k_is)
    (case c__is_told => k_is)
    (case k__is_told => k_is)
    (case a__need_number => k_is)
    (case l__need_number => k_is)
    (case c__need_number => k_is)
    (case k__need_number => k_is)
    (case a__sum_of => k_is)
    (case l__sum_of => k_is)
    (case c__sum_of => k_is)
    (case k__sum_of => k_is)
    (case a__times => k_is)
    (case l__times => k_is)
    (case c__times => k_is)
    (case k__times => k_is)
    (case a__content_of => k_is)
    (case l__content_of => k_is)
    (case c__content_of => k_is)
    (case k__content_of => k_is)
    (case a__eliminated => k_is)
    (case l__eliminated => k_is)
    (case c__eliminated => k_is)
    (case k__eliminated => k_is)
    (case a__first_with => k_is)
    (case l__first_with => k_is)
    (case c__first_with => k_is)
    (case k__first_with => k_is)
    (case a__stepped => k_is)
    (case l__stepped => k_is)
    (case c__stepped => k_is)
    (case k__stepped => k_is)
    (case a__is_row => k_is)
    (case l__is_row => k_is)
    (case c__is_row => k_is)
    (case k__is_row => k_is)
    (case a__are_rows => k_is)
    (case l__are_rows => k_is)
    (case c__are_rows => k_is)
    (case k__are_rows => k_is)
    (case a__need_row => k_is)
    (case l__need_row => k_is)
    (case c__need_row => k_is)
    (case k__need_row => k_is)
    (case a__need_rows => k_is)
    (case l__need_rows => k_is)
    (case c__need_rows => k_is)
    (case k__need_rows => k_is)
    (case a__need_pair => k_is)
    (case l__need_pair => k_is)
    (case c__need_pair => k_is)
    (case k__need_pair => k_is)
    (case a__need_goal => k_is)
    (case l__need_goal => k_is)
    (case c__need_goal => k_is)
    (case k__need_goal => k_is)
    (case a__need_same => k_is)
    (case l__need_same => k_is)
    (case c__need_same => k_is)
    (case k__need_same => k_is)
    (case a__plus => k_is)
    (case l__plus => k_is)
    (case c__plus => k_is)
    (case k__plus => k_is)
    (case a__less => k_is)
    (case l__less => k_is)
    (case c__less => k_is)
    (case k__less => k_is)
    (case a__dot => k_is)
    (case l__dot => k_is)
    (case c__dot => k_is)
    (case k__dot => k_is)
    (case a__multiple => k_is)
    (case l__multiple => k_is)
    (case c__multiple => k_is)
    (case k__multiple => k_is)
    (case a__content => k_is)
    (case l__content => k_is)
    (case c__content => k_is)
    (case k__content => k_is)
    (case a__primitive => k_is)
    (case l__primitive => k_is)
    (case c__primitive => k_is)
    (case k__primitive => k_is)
    (case a__determinant => k_is)
    (case l__determinant => k_is)
    (case c__determinant => k_is)
    (case k__determinant => k_is)
    (case a__rank => k_is)
    (case l__rank => k_is)
    (case c__rank => k_is)
    (case k__rank => k_is)
    (case a__basis => k_is)
    (case l__basis => k_is)
    (case c__basis => k_is)
    (case k__basis => k_is)
    (case a__kernel => k_is)
    (case l__kernel => k_is)
    (case c__kernel => k_is)
    (case k__kernel => k_is)
    (case a__parts_or_form => k_is)
    (case l__parts_or_form => k_is)
    (case c__parts_or_form => k_is)
    (case k__parts_or_form => k_is)
    (case a__is_parts_or_form => k_is)
    (case l__is_parts_or_form => k_is)
    (case c__is_parts_or_form => k_is)
    (case k__is_parts_or_form => k_is)
    (case a__is_test => k_is)
    (case l__is_test => k_is)
    (case c__is_test => k_is)
    (case k__is_test => k_is)
    (case a__whole_or_test => k_is)
    (case l__whole_or_test => k_is)
    (case c__whole_or_test => k_is)
    (case k__whole_or_test => k_is)
    (case a__is_whole_or_test => k_is)
    (case l__is_whole_or_test => k_is)
    (case c__is_whole_or_test => k_is)
    (case k__is_whole_or_test => k_is)
    (case a___law_pail => k_is)
    (case l___law_pail => k_is)
    (case c___law_pail => k_is)
    (case k___law_pail => k_is)
    (case a___law_scooped => k_is)
    (case l___law_scooped => k_is)
    (case c___law_scooped => k_is)
    (case k___law_scooped => k_is)
    (case a___law_any_of => k_is)
    (case l___law_any_of => k_is)
    (case c___law_any_of => k_is)
    (case k___law_any_of => k_is)
    (case a___law_met => k_is)
    (case l___law_met => k_is)
    (case c___law_met => k_is)
    (case k___law_met => k_is)
    (case a___law_right => k_is)
    (case l___law_right => k_is)
    (case c___law_right => k_is)
    (case k___law_right => k_is)
    (case lc__law_right => k_is)
    (case lp__law_right => rfl)
    (case np__law_right => kernel_rfl)
    (case rf__law_right => decide +kernel)
    (case a__law => k_is)
    (case l__law => k_is)
    (case c__law => k_is)
    (case k__law => k_is)
    (case lc_law => k_is)
    (case lp_law => rfl)
    (case np_law => kernel_rfl)
    (case rf_law => decide +kernel)
    (case pn__law_right_law => decide)
    (case z_isinstance => k_is)
    (case z_int => k_is)
    (case z_bool => k_is)
    (case z_tuple => k_is)
    (case z_list => k_is)
    (case z_len => k_is)
    (case z_sum => k_is)
    (case z_all => k_is)
    (case z_any => k_is)
    (case z_zip => k_is)
    (case z_max => k_is)
    (case z_min => k_is)
    (case z_abs => k_is)
    (case z_range => k_is)
    (case z_enumerate => k_is)
    (case z_reversed => k_is)
    (case z_sorted => k_is)
    (case z_str => k_is)
    (case z_repr => k_is)
    (case x__gcd => k_is)
    (case k_InvalidRow => k_is)
    (case be_InvalidRow => k_is)
    (case ty_InvalidRow => k_is)
    (case ic_InvalidRow => k_is)
    (case x_InvalidRow => k_exc)
    (case k_InvalidOperation => k_is)
    (case be_InvalidOperation => k_is)
    (case ty_InvalidOperation => k_is)
    (case ic_InvalidOperation => k_is)
    (case x_InvalidOperation => k_exc)
    (case k_InvalidNumber => k_is)
    (case be_InvalidNumber => k_is)
    (case ty_InvalidNumber => k_is)
    (case ic_InvalidNumber => k_is)
    (case ol_InvalidNumber => exact ⟨_, _, _, _, _, _, _, _, _, _, _, _, _, _, by k_is⟩)
    (case os_InvalidNumber => k_is)
    (case ot_InvalidNumber => k_is)
    (case nf_InvalidNumber => k_is)
    (case ga_InvalidNumber => k_is)
    (case gg_InvalidNumber => k_is)
    (case hc_InvalidNumber => k_is)
    (case k_Refused => k_is)
    (case be_Refused => k_is)
    (case ty_Refused => k_is)
    (case ic_Refused => k_is)
    (case ol_Refused => exact ⟨_, _, _, _, _, _, _, _, _, _, _, _, _, _, by k_is⟩)
    (case os_Refused => k_is)
    (case ot_Refused => k_is)
    (case nf_Refused => k_is)
    (case ga_Refused => k_is)
    (case gg_Refused => k_is)
    (case hc_Refused => k_is)
    (case sb_InvalidRow_InvalidRow => k_is)
    (case sb_InvalidRow_InvalidOperation => k_is)
    (case sb_InvalidRow_InvalidNumber => k_is)
    (case sb_InvalidRow_Refused => k_is)
    (case sb_InvalidOperation_InvalidRow => k_is)
    (case sb_InvalidOperation_InvalidOperation => k_is)
    (case sb_InvalidOperation_InvalidNumber => k_is)
    (case sb_InvalidOperation_Refused => k_is)
    (case sb_InvalidNumber_InvalidRow => k_is)
    (case sb_InvalidNumber_InvalidOperation => k_is)
    (case sb_InvalidNumber_InvalidNumber => k_is)
    (case sb_InvalidNumber_Refused => k_is)
    (case sb_Refused_InvalidRow => k_is)
    (case sb_Refused_InvalidOperation => k_is)
    (case sb_Refused_InvalidNumber => k_is)
    (case sb_Refused_Refused => k_is)

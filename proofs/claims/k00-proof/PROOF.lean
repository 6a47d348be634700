import PyProof.Rows.All
import Wide.All
import OpenK.AllK
import Wide.FinOn
import PyProof.EqAt
import PyProof.EqKinds
import PyProof.TupleCall
import KE.GoesEnum
import HandS.Base
import HandS.Call
import HandS.List
import HandS.Comp
import HandS.Iter
import HandS.Evl
import HandS.Lambda
import HandS.Words
import HandS.Conv
import HandS.TupAny
import HandS.TupMul
import HandS.IsInst
import HandS.Wide
import HandS.RevRange
import HandS.SortInts
import PyProof.IsRules
import HandS.OwnEq
import HandS.More
import PyProof.InstNe
import HandS.FStr
import HandS.Text
import KE.KCallOwn
import HandS.Star
import HandS.TupSets
import HandS.Small
import HandS.StrMore
import HandS.TupLe
import HandS.ReplaceLit
import HandS.Codes
import HandS.Exc
import HandS.ExcOwn
import HandS.ExcInit
import HandS.ExcField
import HandS.TryMany
import HandS.WordsExc
import HandS.RaiseMore
import HandS.EndTab
import KE.KExcInit
import PyProof.ExcBaseAll.IndexError
import PyProof.ExcBaseAll.OverflowError
import PyProof.ExcBaseAll.ArithmeticError
import PyProof.ExcBaseAll.LookupError
import PyProof.ExcBaseAll.ValueError
import HandS.CallLocal
import HandS.EndBits
import KE.KNestM
import PyProof.StrBlock2
import PyProof.ReprRoads
import HandS.Gcd
import HandS.WideBits
import HandS.Flow
import HandS.TryOnly
import KE.KTupSum
import KE.DataAny
import HandS.Deep
import HandS.HotCalls
import KE.KExcIs
import PySem.Challenge.RW_rampworks_k00_errors_and_what_they_keep
set_option Elab.async false
set_option linter.all false
set_option maxRecDepth 100000
set_option maxHeartbeats 4000000
namespace RW
open PySem PySem.Spec PyProof.Rows L2

/-- a sequence at a: a list (true), a tuple (false) -/
def Sq (K : PySem.W.Frag) (k : Bool) (H : Hp) (a : Addr) (xs : List V) : Prop := match k with
  | true => SqL K H a xs
  | false => SqT K H a xs
def itAt (k : Bool) (h : Heap) (it a : Addr) (i : Nat) : Prop := match k with
  | true => h.IsListIter it a i
  | false => h.IsTupleIter it a i
def seqAt (k : Bool) (h : Heap) (a : Addr) (its : Array Value) : Prop := match k with
  | true => h.IsList a its
  | false => h.IsTuple a its
def itObj (k : Bool) (a : Addr) : Obj := match k with
  | true => { cls := .type "list_iterator", data := .fields #[.ref a, .int 0 0] }
  | false => { cls := .type "tuple_iterator", data := .fields #[.ref a, .int 0 0] }
theorem itAt.there {k : Bool} {h : Heap} {it a : Addr} {i : Nat} (x : itAt k h it a i) : ∃ o, h.get? it = some o ∧ ∀ v, o.data ≠ .cell v := by
  cases k with
  | true => obtain ⟨o, e, c, d⟩ := x; exact ⟨o, e, fun v z => by rw [d] at z; cases z⟩
  | false => obtain ⟨o, e, c, d⟩ := x; exact ⟨o, e, fun v z => by rw [d] at z; cases z⟩
theorem itAt.at {k : Bool} {h h' : Heap} {it a : Addr} {i : Nat} (x : itAt k h it a i) (s : ∀ o, h.get? it = some o → h'.get? it = some o) : itAt k h' it a i := by
  cases k with
  | true => exact Heap.IsListIter.at x s
  | false => exact Heap.IsTupleIter.at x s
theorem draws_k {prog : Program} {w : World} {A : Around} (hh : A.handled = none) (k : Bool) (it t : Addr) (hne : t ≠ it) (items : Array Value) :
    Draws prog w A it [it, t] items.size (fun i v => items[i]? = some v) (fun i h => itAt k h it t i ∧ seqAt k h t items) := by
  cases k with
  | true => exact Draws.list hh it t hne items
  | false => exact Draws.tuple hh it t hne items
theorem begins_k (k : Bool) (t : Addr) (items : Array Value) : Begins (.ref t) (itObj k t) fun h => seqAt k h t items := by
  cases k with
  | true => exact begins_list t items
  | false => exact begins_tuple t items
theorem itAt_new {k : Bool} {h : Heap} {it a : Addr} (e : h.get? it = some (itObj k a)) : itAt k h it a 0 := by
  cases k with
  | true => exact ⟨_, e, rfl, rfl⟩
  | false => exact ⟨_, e, rfl, rfl⟩
section
variable {X : Cx} {pins : List (Addr × Obj)} {σ : L2.St} {H : Hp} {s : Shared} {k : Bool} {a : Addr} {xs ys : List V}
theorem inv_seq (I : Inv X pins σ H s) (h : Sq X.K k H a xs) : ∃ its : List Value, Vals xs its ∧ seqAt k s.heap a its.toArray := by
  cases k with
  | true =>
    obtain ⟨its, rv, p, _⟩ := I.list h
    exact ⟨its, rv, p.isList⟩
  | false =>
    obtain ⟨its, rv, p, _⟩ := I.tuple h
    exact ⟨its, rv, p⟩
theorem inv_inj (I : Inv X pins σ H s) (h : Sq X.K k H a xs) (h' : Sq X.K k H a ys) : xs = ys := by
  cases k with
  | true => exact I.list_inj h h'
  | false => exact I.tuple_inj h h'
theorem seqAt.lt {k : Bool} {h : Heap} {a : Addr} {its : Array Value} (x : seqAt k h a its) : a < h.objs.size := by
  cases k with
  | true => obtain ⟨o, e, _⟩ := x; exact Heap.lt_size e
  | false => obtain ⟨o, e, _⟩ := x; exact Heap.lt_size e
end

/-! ### a list or a tuple, walked -/
def ItS (K : PySem.W.Frag) (k : Bool) (a : Addr) : It := match k with
  | true => Itl K a
  | false => Itt K a
def iSeq (K : PySem.W.Frag) (tl : TE) : TI := fun σ H R => tl σ H fun x H1 => ∃ a k, x = .ref a ∧ (∃ xs, Sq K k H1 a xs) ∧ R (ItS K k a) H1
theorem pi_seq {X : Cx} {tg l : Expr} {tl : TE} (hl : PE X l tl) : PI X tg l (iSeq X.K tl) := by
  refine ⟨fun pins s σ H R I h => ?_⟩
  refine thn (hl.run pins s σ H _ I h) fun v s1 ⟨x, H1, I1, r1, q1⟩ => ?_
  obtain ⟨a, k, e, ⟨xs, hq⟩, q⟩ := q1
  subst e
  cases r1
  obtain ⟨its, rv, p⟩ := inv_seq I1 hq
  cases k with
  | true =>
    refine wpAny_pyIter_list p ?_
    refine ⟨s1.heap.objs.size, [s1.heap.objs.size], _, _, H1, rfl, I1.kept (t' := s1.toks) fun b o e => Heap.get?_push_of_some _ e, turn_list a _, ⟨_, Heap.get?_push_size _ rfl, rfl, rfl⟩, fun b hb => ?_, q⟩
    have e : b = s1.heap.objs.size := by simpa using hb
    subst e
    exact I1.fpOk (Nat.le_refl _) (I1.hok.fresh (Nat.le_refl _))
  | false =>
    refine wpAny_pyIter_tuple p ?_
    refine ⟨s1.heap.objs.size, [s1.heap.objs.size], _, _, H1, rfl, I1.kept (t' := s1.toks) fun b o e => Heap.get?_push_of_some _ e, turn_tuple a _, ⟨_, Heap.get?_push_size _ rfl, rfl, rfl⟩, fun b hb => ?_, q⟩
    have e : b = s1.heap.objs.size := by simpa using hb
    subst e
    exact I1.fpOk (Nat.le_refl _) (I1.hok.fresh (Nat.le_refl _))

/-! ### zip of two sequences -/
def ItzG (K : PySem.W.Frag) (k1 k2 : Bool) (a b : Addr) : It :=
  ⟨fun i H => ∃ (xs ys : List V) (x y : V), Sq K k1 H a xs ∧ Sq K k2 H b ys ∧ xs[i]? = some x ∧ ys[i]? = some y,
    fun i H v H' => ∃ T x y, v = .ref T ∧ H T = none ∧ H' = upd H T (.tup [x, y]) ∧ (∀ xs, Sq K k1 H a xs → xs[i]? = some x) ∧ ∀ ys, Sq K k2 H b ys → ys[i]? = some y,
    fun i H => ∃ xs ys : List V, Sq K k1 H a xs ∧ Sq K k2 H b ys ∧ i ≤ xs.length ∧ i ≤ ys.length ∧ (xs.length ≤ i ∨ ys.length ≤ i)⟩
theorem turn_zipG {P : Program} {w : World} {K : PySem.W.Frag} {elts : List Expr} {kk : Nat} {tpos : Pos} {k1 k2 : Bool} {a b z TI TO i1 i2 : Addr} (D : ZipSep2 z TI TO i1 i2 [i1, a] [i2, b]) (n1 : a ≠ i1) (n2 : b ≠ i2) :
    Turn P w K (.Tuple elts kk tpos) (ItzG K k1 k2 a b) [z, TI, TO, i1, i2] z (fun i h => IsZip h z TI TO .none ∧ IsTupOf2 h TI (.ref i1) (.ref i2) ∧ (∃ x y, IsTupOf2 h TO x y) ∧ itAt k1 h i1 a i ∧ itAt k2 h i2 b i) where
  mem := by simp
  obj := fun i h st c hc => by
    obtain ⟨hz, hTI, ⟨x, y, hTO⟩, h1, h2⟩ := st
    have e' : c = z ∨ c = TI ∨ c = TO ∨ c = i1 ∨ c = i2 := by simpa using hc
    rcases e' with q | q | q | q | q
    · rw [q]; exact ⟨_, hz, fun v q => nomatch q⟩
    · rw [q]; exact ⟨_, hTI, fun v q => nomatch q⟩
    · rw [q]; exact ⟨_, hTO, fun v q => nomatch q⟩
    · rw [q]; exact h1.there
    · rw [q]; exact h2.there
  keep := fun i h h' st k => by
    obtain ⟨hz, hTI, ⟨x, y, hTO⟩, h1, h2⟩ := st
    exact ⟨k z (by simp) _ hz, k TI (by simp) _ hTI, ⟨x, y, k TO (by simp) _ hTO⟩, h1.at fun o q => k i1 (by simp) o q, h2.at fun o q => k i2 (by simp) o q⟩
  item := by
    intro X hP hw hK hc i pins s σ H E I hf st hg
    subst hP hw hK
    obtain ⟨hz, hTI, ⟨x0, y0, hTO⟩, h1, h2⟩ := st
    obtain ⟨xs, ys, x, y, hqx, hqy, hx, hy⟩ := hg
    obtain ⟨its, rv, p⟩ := inv_seq I hqx
    obtain ⟨its2, rv2, p2⟩ := inv_seq I hqy
    obtain ⟨u, hu, ru⟩ := rv.get hx
    obtain ⟨u2, hu2, ru2⟩ := rv2.get hy
    have hzl : z < s.heap.objs.size := Heap.lt_size hz
    have hh : X.A.in1.handled = none := I.ok.hd hc
    have l1 : i < its.toArray.size := by
      have := (List.getElem?_eq_some_iff.mp hu).1
      simpa using this
    have l2 : i < its2.toArray.size := by
      have := (List.getElem?_eq_some_iff.mp hu2).1
      simpa using this
    refine wpAny_pyNext_zipD2_item D (draws_k hh k1 i1 a n1 its.toArray) (draws_k hh k2 i2 b n2 its2.toArray) hz hTI hTO ⟨h1, p⟩ ⟨h2, p2⟩ l1 l2 fun v1 v2 h' tk e1 e2 z' TO' h1' h2' hT hsz hk => ?_
    have e1' : v1 = u := by
      have q : its[i]? = some v1 := by simpa using e1
      rw [hu] at q
      exact (Option.some.inj q).symm
    have e2' : v2 = u2 := by
      have q : its2[i]? = some v2 := by simpa using e2
      rw [hu2] at q
      exact (Option.some.inj q).symm
    subst e1' e2'
    refine ⟨_, rfl, wpAny_letOwnedTupleGo_zip (s := { s with heap := h', toks := tk }) z' fun h'' z'' sb => ?_⟩
    have hT2 : h''.get? s.heap.objs.size = some { cls := .type "tuple", data := .seq #[v1, v2] } := (sb.2 _ (Nat.ne_of_gt hzl)).trans hT
    have new : ObjOk X.prog X.w (upd H s.heap.objs.size (.tup [x, y])) h'' s.heap.objs.size (.tup [x, y]) :=
      ⟨by show 2 ≤ sizeLine; decide, [v1, v2], .cons ru (.cons ru2 .nil), ⟨_, hT2, rfl, _, rfl⟩⟩
    have I1 : Inv X pins σ (upd H s.heap.objs.size (.tup [x, y])) { s with heap := h'', toks := tk } :=
      I.turnedNew (t' := tk) (ch := [z, TI, TO, i1, i2]) (fun c o hb q => (sb.2 c (fun q' => hb (by simp [q']))).trans (hk c o (fun q' => hb (by simp [q'])) (fun q' => hb (by simp [q'])) (fun q' => hb (by simp [q'])) (fun q' => hb (by simp [q'])) q)) hf (Nat.le_refl _) new
    refine ⟨.ref s.heap.objs.size, _, I1, rfl, ⟨_, x, y, rfl, I.hok.fresh (Nat.le_refl _), rfl, fun l hl => by rw [inv_inj I hl hqx]; exact hx, fun l hl => by rw [inv_inj I hl hqy]; exact hy⟩, ⟨z'', ?_, ⟨v1, v2, ?_⟩, ?_, ?_⟩, fun c hcm => ?_⟩
    · exact (sb.2 _ D.TIz).trans (hk _ _ D.TIz D.TITO D.TIi1 D.TIi2 hTI)
    · exact (sb.2 _ D.TOz).trans TO'
    · exact h1'.1.at fun o q => (sb.2 _ (Ne.symm D.zi1)).trans q
    · exact h2'.1.at fun o q => (sb.2 _ (Ne.symm D.zi2)).trans q
    · have hlt : c < s.heap.objs.size := by
        have e' : c = z ∨ c = TI ∨ c = TO ∨ c = i1 ∨ c = i2 := by simpa using hcm
        rcases e' with q | q | q | q | q
        · rw [q]; exact hzl
        · rw [q]; exact Heap.lt_size hTI
        · rw [q]; exact Heap.lt_size hTO
        · rw [q]; obtain ⟨_, e1, _⟩ := h1.there; exact Heap.lt_size e1
        · rw [q]; obtain ⟨_, e2, _⟩ := h2.there; exact Heap.lt_size e2
      rw [upd_ne (Nat.ne_of_lt hlt)]
      exact (hf c hcm).1
  done := by
    intro X hP hw hK hc i pins s σ H E I hf st hg
    subst hP hw hK
    obtain ⟨hz, hTI, ⟨x0, y0, hTO⟩, h1, h2⟩ := st
    obtain ⟨xs, ys, hqx, hqy, le1, le2, hend⟩ := hg
    obtain ⟨its, rv, p⟩ := inv_seq I hqx
    obtain ⟨its2, rv2, p2⟩ := inv_seq I hqy
    have l1 := rv.length
    have l2 := rv2.length
    have hh : X.A.in1.handled = none := I.ok.hd hc
    exact wpAny_pyNext_zipD2_end D (draws_k hh k1 i1 a n1 its.toArray) (draws_k hh k2 i2 b n2 its2.toArray) hz hTI hTO ⟨h1, p⟩ ⟨h2, p2⟩ (by simp; omega) (by simp; omega) (by simp; omega) fun h' tk hk => ⟨rfl, I.turnedL (t' := tk) (ch := [z, TI, TO, i1, i2]) (fun c o hb q =>
      hk c o (fun q' => hb (by simp [q'])) (fun q' => hb (by simp [q'])) (fun q' => hb (by simp [q'])) (fun q' => hb (by simp [q'])) q) hf⟩
  self := fun A i s Q E st h => wpAny_pyIter_zip st.1 h

def iZipG (K : PySem.W.Frag) (ta : TA) : TI := fun σ H R => ta σ H fun vs H1 => ∃ a b k1 k2 xs ys, vs = [.ref a, .ref b] ∧ Sq K k1 H1 a xs ∧ Sq K k2 H1 b ys ∧ R (ItzG K k1 k2 a b) H1
theorem pi_zipG {X : Cx} {e e2 : Expr} {ta : TA} {p pos tpos : Pos} {elts : List Expr} {kk : Nat} (hg : Gl X "zip") (hm : X.mg "zip" = none) (ha : PA X [e, e2] ta)
    (hs : starEach [e, e2] X.env = (false, eval e X.env) :: starEach [e2] X.env := by rfl) (hpl : (backTo pos (starEach [e2] X.env)).any (·.1) = false := by rfl) :
    PI X (.Tuple elts kk tpos) (.Call (.Name "zip" p) [e, e2] [] pos) (iZipG X.K ta) := by
  refine ⟨fun pins s σ H R I h => ?_⟩
  refine Call_ (ld_blt I hg hm PyProof.Rows.boot_zip (PyProof.Rows.callWith_type1 (thn (ha.run pos pins s σ H _ I h) fun us s1 ⟨vs, H1, I1, r1, q1⟩ => ?_) hs hpl))
  obtain ⟨a, b, k1, k2, xs, ys, ex, hqx, hqy, q⟩ := q1
  subst ex
  cases r1 with
  | cons r rr =>
    cases rr with
    | cons r' rr =>
      cases rr
      cases r
      cases r'
      have fresh5 : ∀ c, c ∈ [s1.heap.objs.size + 4, s1.heap.objs.size + 2, s1.heap.objs.size + 3, s1.heap.objs.size, s1.heap.objs.size + 1] → FpOk X pins H1 c := fun c hcm => by
        have e' : c = s1.heap.objs.size + 4 ∨ c = s1.heap.objs.size + 2 ∨ c = s1.heap.objs.size + 3 ∨ c = s1.heap.objs.size ∨ c = s1.heap.objs.size + 1 := by simpa using hcm
        have hle : s1.heap.objs.size ≤ c := by
          rcases e' with z | z | z | z | z
          · rw [z]; exact Nat.le_add_right _ _
          · rw [z]; exact Nat.le_add_right _ _
          · rw [z]; exact Nat.le_add_right _ _
          · rw [z]; exact Nat.le_refl _
          · rw [z]; exact Nat.le_add_right _ _
        exact I1.fpOk hle (I1.hok.fresh hle)
      obtain ⟨its, rv, p1⟩ := inv_seq I1 hqx
      obtain ⟨its2, rv2, p2⟩ := inv_seq I1 hqy
      have ha1 := p1.lt
      have ha2 := p2.lt
      refine zip_begins2 (begins_k k1 a its.toArray) (begins_k k2 b its2.toArray) p1 p2 fun h' hz hTI hTO h1 h2 hsz hk => wpAny_pyIter_zip hz ?_
      have I2 : Inv X pins σ H1 { s1 with heap := h' } := I1.kept (t' := s1.toks) hk
      have S : ZipSep2 (s1.heap.objs.size + 4) (s1.heap.objs.size + 2) (s1.heap.objs.size + 3) s1.heap.objs.size (s1.heap.objs.size + 1) [s1.heap.objs.size, a] [s1.heap.objs.size + 1, b] :=
        zip_sep2 (fp1 := [a]) (fp2 := [b]) (fun c hc => by rw [List.mem_singleton.mp hc]; exact ha1) (fun c hc => by rw [List.mem_singleton.mp hc]; exact ha2)
      exact ⟨s1.heap.objs.size + 4, [s1.heap.objs.size + 4, s1.heap.objs.size + 2, s1.heap.objs.size + 3, s1.heap.objs.size, s1.heap.objs.size + 1], _, _, H1, rfl, I2, turn_zipG S (Nat.ne_of_lt ha1) (Nat.ne_of_lt (Nat.lt_succ_of_lt ha2)), ⟨hz, hTI, ⟨_, _, hTO⟩, itAt_new h1, itAt_new h2⟩, fresh5, q⟩
end RW

set_option Elab.async false
set_option linter.all false
set_option maxRecDepth 100000
set_option maxHeartbeats 4000000
namespace RW
open PySem PySem.Spec PyProof.Rows L2
theorem meets_enumerate_new1 {v : Value} {o : Obj} {H : Heap → Prop} (B : Begins v o H) :
    Meets (Builtin.«enumerate.__new__» ⟨[.type "enumerate", v], []⟩) (fun _ R s => H s.heap ∧
      R (.ok (.ret (.ref (s.heap.push o).objs.size))) { s with heap := (s.heap.push o).push { cls := .type "enumerate", data := .fields #[.none, .bool false, .ref s.heap.objs.size, rawInt 0, .none, .none] } }) :=
  .of_wp fun prog w A R s h => by
    obtain ⟨hp, g, d, tk, os⟩ := s; obtain ⟨h1, h⟩ := h
    have hsub := sub_enumerate
    have q1 : ∀ {A' : Around} {E : Value → Shared → Prop} {Q : Value → Shared → Prop}, Q (.ref hp.objs.size) ⟨hp.push o, g, d, tk, os⟩ → wpAny (model prog w) A' (pyIter v) Q E ⟨hp, g, d, tk, os⟩ :=
      fun q => B.iter prog w _ _ ⟨hp, g, d, tk, os⟩ _ h1 q
    wp_walk using q1
    refine wpAny_stack_any fun st => wpAny_pure ?_
    split
    · rename_i c _ _ _ _ _
      cases (c == Value.type "enumerate")
      · wp_walk using q1
        exact ⟨_, rfl, h⟩
      · wp_walk using q1
        exact ⟨_, rfl, h⟩
    · wp_walk using q1
      exact ⟨_, rfl, h⟩
section
variable {prog : Program} {w : World} {A : Around} {E : Value → Shared → Prop} {s : Shared}
theorem enum_begins1 {v : Value} {o : Obj} {H : Heap → Prop} {Q : Value → Shared → Prop} (B : Begins v o H) (h1 : H s.heap)
    (h : ∀ h', IsEnum h' (s.heap.objs.size + 1) s.heap.objs.size 0 .none → h'.get? s.heap.objs.size = some o → h'.objs.size = s.heap.objs.size + 2 →
      (∀ b o, s.heap.get? b = some o → h'.get? b = some o) → Q (.ref (s.heap.objs.size + 1)) { s with heap := h' }) :
    wpAny (model prog w) A (call (.type "enumerate") [v]) Q E s := by
  refine callType_new F.called_enumerate (by decide) (F.typeCall_enumerate_1 _) (F.newCall_enumerate_1 _) (fun obj => F.args_object_init_2 obj _) F.entry_enumerate_new
    (meets_enumerate_new1 B) ⟨h1, ?_⟩
  have hz : (s.heap.push o).objs.size = s.heap.objs.size + 1 := Heap.size_push ..
  show _ ∧ _
  rw [hz]
  have he : IsEnum ((s.heap.push o).push { cls := .type "enumerate", data := .fields #[.none, .bool false, .ref s.heap.objs.size, rawInt 0, .none, .none] }) (s.heap.objs.size + 1) s.heap.objs.size 0 .none := by
    have := Heap.get?_push_size (s.heap.push o) (o := { cls := .type "enumerate", data := .fields #[.none, .bool false, .ref s.heap.objs.size, rawInt 0, .none, .none] }) rfl
    rw [hz] at this; exact this
  refine ⟨⟨_, he, rfl⟩, h _ he (Heap.get?_push_of_some _ (Heap.get?_push_size _ B.free)) (by rw [Heap.size_push, hz]) fun b o x => Heap.get?_push_of_some _ (Heap.get?_push_of_some _ x)⟩
end
def IteG (K : PySem.W.Frag) (k : Bool) (a : Addr) : It :=
  ⟨fun i H => ∃ (xs : List V) (x : V), Sq K k H a xs ∧ xs[i]? = some x, fun i H v H' => ∃ T x, v = .ref T ∧ H T = none ∧ H' = upd H T (.tup [.int (i : Nat), x]) ∧ ∀ xs, Sq K k H a xs → xs[i]? = some x, fun i H => ∃ xs : List V, Sq K k H a xs ∧ xs.length = i⟩
theorem turn_enumG {P : Program} {w : World} {K : PySem.W.Frag} {elts : List Expr} {kk : Nat} {tpos : Pos} {k : Bool} {a e it : Addr} (hne : e ≠ it) (hea : a ≠ e) (hia : a ≠ it) :
    Turn P w K (.Tuple elts kk tpos) (IteG K k a) [e, it] e (fun i h => (∃ old, IsEnum h e it ((i : Nat) : Int) old) ∧ itAt k h it a i) where
  mem := by simp
  obj := fun i h st b hb => by
    obtain ⟨⟨old, he⟩, hi⟩ := st
    have e' : b = e ∨ b = it := by simpa using hb
    rcases e' with z | z
    · rw [z]; exact ⟨_, he, fun v q => nomatch q⟩
    · rw [z]; exact hi.there
  keep := fun i h h' st k => let ⟨⟨old, he⟩, hi⟩ := st; ⟨⟨old, k e (by simp) _ he⟩, hi.at fun o q => k it (by simp) o q⟩
  item := by
    intro X hP hw hK hc i pins s σ H E I hf st hg
    subst hP hw hK
    obtain ⟨⟨old, he⟩, hit⟩ := st
    obtain ⟨xs, x, hq, hx⟩ := hg
    obtain ⟨its, rv, p⟩ := inv_seq I hq
    obtain ⟨u, hu, ru⟩ := rv.get hx
    have hel : e < s.heap.objs.size := Heap.lt_size he
    have hil : it < s.heap.objs.size := by obtain ⟨_, q, _⟩ := hit.there; exact Heap.lt_size q
    have hh : X.A.in1.handled = none := I.ok.hd hc
    have l1 : i < its.toArray.size := by
      have := (List.getElem?_eq_some_iff.mp hu).1
      simpa using this
    refine wpAny_pyNext_enum_itemC (draws_k hh k it a hia its.toArray) he ⟨hit, p⟩ l1 hne (by simp [hne, Ne.symm hea]) fun v1 h' tk e1 ho hst' hT hsz hk => ?_
    have e1' : v1 = u := by
      have q : its[i]? = some v1 := by simpa using e1
      rw [hu] at q
      exact (Option.some.inj q).symm
    subst e1'
    refine ⟨_, rfl, wpAny_letOwnedTupleGo_enum (s := { s with heap := h', toks := tk + 1 }) ho fun h'' he' sb => ?_⟩
    have hT2 : h''.get? s.heap.objs.size = some { cls := .type "tuple", data := .seq #[.int i tk, v1] } := (sb.2 _ (Nat.ne_of_gt hel)).trans hT
    have new : ObjOk X.prog X.w (upd H s.heap.objs.size (.tup [.int (i : Nat), x])) h'' s.heap.objs.size (.tup [.int (i : Nat), x]) :=
      ⟨by show 2 ≤ sizeLine; decide, [.int i tk, v1], .cons ⟨_, rfl⟩ (.cons ru .nil), ⟨_, hT2, rfl, _, rfl⟩⟩
    have I1 : Inv X pins σ (upd H s.heap.objs.size (.tup [.int (i : Nat), x])) { s with heap := h'', toks := tk + 1 } :=
      I.turnedNew (ch := [e, it]) (fun b ob hb q => (sb.2 b (fun z => hb (by simp [z]))).trans (hk b ob (fun z => hb (by simp [z])) (fun z => hb (by simp [z])) q)) hf (Nat.le_refl _) new
    refine ⟨.ref s.heap.objs.size, _, I1, rfl, ⟨_, x, rfl, I.hok.fresh (Nat.le_refl _), rfl, fun ys hy => by rw [inv_inj I hy hq]; exact hx⟩, ⟨⟨v1, ?_⟩, hst'.1.at fun o q => (sb.2 it (Ne.symm hne)).trans q⟩, fun b hb => ?_⟩
    · have e1 : ((i + 1 : Nat) : Int) = (i : Int) + 1 := by omega
      rw [e1]; exact he'
    · have hb' : b < s.heap.objs.size := by
        have e' : b = e ∨ b = it := by simpa using hb
        rcases e' with z | z
        · rw [z]; exact hel
        · rw [z]; exact hil
      rw [upd_ne (Nat.ne_of_lt hb')]
      exact (hf b hb).1
  done := by
    intro X hP hw hK hc i pins s σ H E I hf st hg
    subst hP hw hK
    obtain ⟨⟨old, he⟩, hit⟩ := st
    obtain ⟨xs, hq, hx⟩ := hg
    obtain ⟨its, rv, p⟩ := inv_seq I hq
    obtain ⟨f0, f1, f2, f3, f4, f5⟩ := hf it (by simp)
    have hh : X.A.in1.handled = none := I.ok.hd hc
    have hl := rv.length
    have hi : its.toArray.size = i := by simp; omega
    subst hi
    exact wpAny_pyNext_enum_endD (draws_k hh k it a hia its.toArray) he ⟨hit, p⟩ fun h' eb => ⟨rfl, I.turned (t' := s.toks) (fun b o hb q => eb b o hb q) f0 f1 f3 f4 f5⟩
  self := fun A i s Q E st h => let ⟨⟨_, he⟩, _⟩ := st; wpAny_pyIter_enum he h
def iEnumG (K : PySem.W.Frag) (ta : TA) : TI := fun σ H R => ta σ H fun vs H1 => ∃ a k xs, vs = [.ref a] ∧ Sq K k H1 a xs ∧ R (IteG K k a) H1
theorem pi_enumG {X : Cx} {e : Expr} {ta : TA} {p pos tpos : Pos} {elts : List Expr} {kk : Nat} (hg : Gl X "enumerate") (hm : X.mg "enumerate" = none) (ha : PA X [e] ta) (hs : starEach [e] X.env = [(false, eval e X.env)] := by rfl) :
    PI X (.Tuple elts kk tpos) (.Call (.Name "enumerate" p) [e] [] pos) (iEnumG X.K ta) := by
  refine ⟨fun pins s σ H R I h => ?_⟩
  refine Call_ (ld_blt I hg hm boot_enumerate (PyProof.Rows.callWith_type1 (thn (ha.run pos pins s σ H _ I h) fun us s1 ⟨vs, H1, I1, r1, q1⟩ => ?_) hs rfl))
  obtain ⟨a, k, xs, ex, hq, q⟩ := q1
  subst ex
  cases r1 with
  | cons r rr =>
    cases rr
    cases r
    obtain ⟨its, rv, p'⟩ := inv_seq I1 hq
    have hal := p'.lt
    refine enum_begins1 (begins_k k a its.toArray) p' fun h' he hit hsz hk => wpAny_pyIter_enum he ?_
    have I2 : Inv X pins σ H1 { s1 with heap := h' } := I1.kept (t' := s1.toks) hk
    refine ⟨s1.heap.objs.size + 1, [s1.heap.objs.size + 1, s1.heap.objs.size], _, _, H1, rfl, I2, turn_enumG (e := s1.heap.objs.size + 1) (it := s1.heap.objs.size) (Nat.succ_ne_self _) (Nat.ne_of_lt (Nat.lt_succ_of_lt hal)) (Nat.ne_of_lt hal), ⟨⟨.none, he⟩, itAt_new hit⟩, fun b hb => ?_, q⟩
    have e' : b = s1.heap.objs.size + 1 ∨ b = s1.heap.objs.size := by simpa using hb
    have hle : s1.heap.objs.size ≤ b := by
      rcases e' with z | z
      · rw [z]; exact Nat.le_add_right _ _
      · rw [z]; exact Nat.le_refl _
    exact I1.fpOk hle (I1.hok.fresh hle)
end RW

set_option Elab.async false
set_option linter.all false
set_option maxRecDepth 100000
set_option maxHeartbeats 4000000
namespace RW
open PySem PySem.Spec PyProof.Rows L2
open Evl (Ex)

/-! ### data: what a value is, whatever its address -/
inductive Dat where
  | non | bl (b : Bool) | int (i : Int) | str (s : Str) | ty (n : String)
  | tup (xs : List Dat) | lst (xs : List Dat) | scr (ns : List Int)
  | ins (C : Addr) (fs : List (Str × Dat))
  | adr (a : Addr)
  | dic (ks : List (List Int))
  | cel (j : Nat)
  | tab (P : Addr) (q : Str)
  | dd
  | lsa (p : Addr) (ds : List Dat)
  | dkd (kvs : List (L2.Key × Dat))
  | dtd (kvs : List (List Int × Dat))
  | dct (kvs : List (List Int × Dat))
/-- where it stands, if that is told -/
def adrOf : Dat → Option Addr
  | .tab P _ => some P
  | .lsa p _ => some p
  | _ => none
/-- tracked, or written -/
def Tk (K : PySem.W.Frag) (B : Hp) (a : Addr) (xs : List V) : Prop :=
  B a = some (.tup xs) ∨ ∃ (o : Obj) (its : Array Value) (n : Nat), K.lookup a = some o ∧ o.cls = .type "tuple" ∧ o.data = .seq its n ∧ Vals xs its.toList
theorem Tk.mono {K : PySem.W.Frag} {B B' : Hp} {a : Addr} {xs : List V} (e : Ex B B') (h : Tk K B a xs) : Tk K B' a xs := h.imp (e _ _) id
mutual
inductive Rep (K : PySem.W.Frag) (B : Hp) : V → Dat → Prop
  | non : Rep K B .non .non
  | bl (b : Bool) : Rep K B (.bl b) (.bl b)
  | int (i : Int) : Rep K B (.int i) (.int i)
  | str (s : Str) : Rep K B (.str s) (.str s)
  | ty (n : String) : Rep K B (.ty n) (.ty n)
  | tup {a : Addr} {xs : List V} {ds : List Dat} : SqT K B a xs → Reps K B xs ds → (t : Tk K B a xs := by first | assumption | exact .inl upd_same | exact .inl (by assumption)) → Rep K B (.ref a) (.tup ds)
  | lst {a : Addr} {xs : List V} {ds : List Dat} : B a = some (.lst xs) → Reps K B xs ds → Rep K B (.ref a) (.lst ds)
  | scr {a : Addr} {ns : List Int} : SqL K B a (ns.map V.int) → Rep K B (.ref a) (.scr ns)
  | ins {a C dx : Addr} {vs : List (Str × V)} {fs : List (Str × Dat)} : B a = some (.ins C dx vs) → RepF K B vs fs → Rep K B (.ref a) (.ins C fs)
  | adr (a : Addr) : Rep K B (.ref a) (.adr a)
  | dd {a : Addr} : B a = some (.dT []) → Rep K B (.ref a) .dd
  | dct {a : Addr} {kv : List (List L2.Key × V)} {kvs : List (List Int × Dat)} : Rd B a (.dT kv) → kv.map (·.1) = (kvs.map fun k => k.1.map Sum.inl) → Reps K B (kv.map (·.2)) (kvs.map (·.2)) → (kvs = [] → B a = some (.dT [])) → Rep K B (.ref a) (.dct kvs)
inductive Reps (K : PySem.W.Frag) (B : Hp) : List V → List Dat → Prop
  | nil : Reps K B [] []
  | cons {v : V} {d : Dat} {vs : List V} {ds : List Dat} : Rep K B v d → Reps K B vs ds → Reps K B (v :: vs) (d :: ds)
inductive RepF (K : PySem.W.Frag) (B : Hp) : List (Str × V) → List (Str × Dat) → Prop
  | nil : RepF K B [] []
  | cons {f : Str} {v : V} {d : Dat} {vs : List (Str × V)} {ds : List (Str × Dat)} : Rep K B v d → RepF K B vs ds → RepF K B ((f, v) :: vs) ((f, d) :: ds)
  | cel {f : Str} {v : V} {j : Nat} {vs : List (Str × V)} {ds : List (Str × Dat)} : RepF K B vs ds → RepF K B ((f, v) :: vs) ((f, .cel j) :: ds)
end
section
variable {K : PySem.W.Frag} {B B' : Hp}
mutual
theorem Rep.mono (e : Ex B B') : ∀ {v : V} {d : Dat}, Rep K B v d → Rep K B' v d
  | _, _, .non => .non
  | _, _, .bl b => .bl b
  | _, _, .int i => .int i
  | _, _, .str s => .str s
  | _, _, .ty n => .ty n
  | _, _, .tup h r t => .tup (Evl.ex_t e h) (Reps.mono e r) (t.mono e)
  | _, _, .lst h r => .lst (e _ _ h) (Reps.mono e r)
  | _, _, .scr h => .scr (Evl.ex_l e h)
  | _, _, .ins h r => .ins (e _ _ h) (RepF.mono e r)
  | _, _, .adr a => .adr a
  | _, _, .dd h => .dd (e _ _ h)
  | _, _, .dct h h1 r h2 => .dct (h.imp (e _ _) fun ⟨o, z⟩ => ⟨o, e _ _ z⟩) h1 (Reps.mono e r) fun z => e _ _ (h2 z)
theorem Reps.mono (e : Ex B B') : ∀ {v : List V} {d : List Dat}, Reps K B v d → Reps K B' v d
  | _, _, .nil => .nil
  | _, _, .cons h r => .cons (Rep.mono e h) (Reps.mono e r)
theorem RepF.mono (e : Ex B B') : ∀ {v : List (Str × V)} {d : List (Str × Dat)}, RepF K B v d → RepF K B' v d
  | _, _, .nil => .nil
  | _, _, .cons h r => .cons (Rep.mono e h) (RepF.mono e r)
  | _, _, .cel r => .cel (RepF.mono e r)
end
theorem Reps.length : ∀ {vs : List V} {ds : List Dat}, Reps K B vs ds → vs.length = ds.length
  | _, _, .nil => rfl
  | _, _, .cons _ r => by rw [List.length_cons, List.length_cons, Reps.length r]
theorem Reps.get : ∀ {vs : List V} {ds : List Dat} {i : Nat} {d : Dat}, Reps K B vs ds → ds[i]? = some d → ∃ v, vs[i]? = some v ∧ Rep K B v d
  | _, _, _, _, .nil, e => by simp at e
  | _, _, 0, _, .cons h _, e => by simp at e; subst e; exact ⟨_, rfl, h⟩
  | _, _, i + 1, d, .cons _ r, e => by
    obtain ⟨v, h1, h2⟩ := Reps.get (i := i) (d := d) r (by simpa using e)
    exact ⟨v, by simpa using h1, h2⟩
theorem Reps.get' : ∀ {vs : List V} {ds : List Dat} {i : Nat} {v : V}, Reps K B vs ds → vs[i]? = some v → ∃ d, ds[i]? = some d ∧ Rep K B v d
  | _, _, _, _, .nil, e => by simp at e
  | _, _, 0, _, .cons h _, e => by simp at e; subst e; exact ⟨_, rfl, h⟩
  | _, _, i + 1, v, .cons _ r, e => by
    obtain ⟨d, h1, h2⟩ := Reps.get' (i := i) (v := v) r (by simpa using e)
    exact ⟨d, by simpa using h1, h2⟩
theorem Reps.append : ∀ {vs ws : List V} {ds es : List Dat}, Reps K B vs ds → Reps K B ws es → Reps K B (vs ++ ws) (ds ++ es)
  | _, _, _, _, .nil, h => h
  | _, _, _, _, .cons h r, q => .cons h (Reps.append r q)
theorem Reps.take : ∀ {vs : List V} {ds : List Dat} (n : Nat), Reps K B vs ds → Reps K B (vs.take n) (ds.take n)
  | _, _, 0, _ => .nil
  | _, _, _ + 1, .nil => .nil
  | _, _, n + 1, .cons h r => .cons h (Reps.take n r)
theorem Reps.drop : ∀ {vs : List V} {ds : List Dat} (n : Nat), Reps K B vs ds → Reps K B (vs.drop n) (ds.drop n)
  | _, _, 0, r => r
  | _, _, _ + 1, .nil => .nil
  | _, _, n + 1, .cons _ r => Reps.drop n r
theorem Reps.set : ∀ {vs : List V} {ds : List Dat} {v : V} {d : Dat} (n : Nat), Rep K B v d → Reps K B vs ds → Reps K B (vs.set n v) (ds.set n d)
  | _, _, _, _, _, _, .nil => .nil
  | _, _, _, _, 0, h, .cons _ r => .cons h r
  | _, _, _, _, n + 1, h, .cons q r => .cons q (Reps.set n h r)
theorem Reps.ints : ∀ {vs : List V} {ns : List Int}, Reps K B vs (ns.map Dat.int) → vs = ns.map V.int
  | _, [], .nil => rfl
  | _, n :: ns, .cons h r => by
    cases h
    rw [List.map_cons, Reps.ints r]
theorem Reps.bls : ∀ {vs : List V} {ns : List Bool}, Reps K B vs (ns.map Dat.bl) → vs = ns.map V.bl
  | _, [], .nil => rfl
  | _, n :: ns, .cons h r => by
    cases h
    rw [List.map_cons, Reps.bls r]
theorem RepF.get : ∀ {vs : List (Str × V)} {fs : List (Str × Dat)} {f : Str} {d : Dat}, RepF K B vs fs → fs.lookup f = some d → (∀ j, d ≠ .cel j) → ∃ v, vs.lookup f = some v ∧ Rep K B v d
  | _, _, _, _, .nil, e, _ => by cases e
  | _, _, f, d, .cons (f := g) (vs := vs) (ds := ds) h r, e, hd => by
    by_cases q : (f == g) = true
    · simp only [List.lookup, q] at e ⊢
      cases e
      exact ⟨_, rfl, h⟩
    · have q' : (f == g) = false := by simpa using q
      simp only [List.lookup, q'] at e ⊢
      exact RepF.get r e hd
  | _, _, f, d, .cel (f := g) (j := j) r, e, hd => by
    by_cases q : (f == g) = true
    · simp only [List.lookup, q] at e
      cases e
      exact absurd rfl (hd j)
    · have q' : (f == g) = false := by simpa using q
      simp only [List.lookup, q'] at e ⊢
      exact RepF.get r e hd
end

/-! ### what a slot or an argument is: data, or a list that is changed (by its number) -/
inductive Sl where
  | d (x : Dat)
  | c (k : Nat)
def RepS (K : PySem.W.Frag) (B : Hp) (as : List Addr) (v : V) : Sl → Prop
  | .d x => Rep K B v x
  | .c k => ∃ a, as[k]? = some a ∧ v = .ref a
inductive RepSs (K : PySem.W.Frag) (B : Hp) (as : List Addr) : List V → List Sl → Prop
  | nil : RepSs K B as [] []
  | cons {v : V} {s : Sl} {vs : List V} {ss : List Sl} : RepS K B as v s → RepSs K B as vs ss → RepSs K B as (v :: vs) (s :: ss)
abbrev Env1 := List (Option Sl)
def EnvR (K : PySem.W.Frag) (B : Hp) (as : List Addr) (σ : L2.St) (env : Env1) : Prop :=
  σ.length = env.length ∧ ∀ (i : Nat) (s : Sl), env[i]? = some (some s) → ∃ v, σ[i]? = some (some v) ∧ RepS K B as v s
/-- what stands at a changed thing -/
def CellO (K : PySem.W.Frag) (B : Hp) : HO → Dat → Prop
  | .lst vs, .lst ds => Reps K B vs ds
  | .lst vs, .lsa _ ds => Reps K B vs ds
  | .ins C _ vs, .ins C' fs => C = C' ∧ RepF K B vs fs
  | .dT kvs, .dic ks => kvs.map (·.1) = ks.map fun k => k.map Sum.inl
  | .dK kvs, .dkd ks => kvs.map (·.1) = ks.map (·.1) ∧ Reps K B (kvs.map (·.2)) (ks.map (·.2))
  | .dT kvs, .dtd ks => kvs.map (·.1) = (ks.map fun k => k.1.map Sum.inl) ∧ Reps K B (kvs.map (·.2)) (ks.map (·.2))
  | .tbl ps, .tab _ q => TriplesOk ps.toList ∧ ∀ (pos : Pos) (cv : Value), codeAmong pos ps.toList = some cv → ∃ c, cv = .ref c ∧ B c = some (LamX.CodeO c q)
  | _, _ => False
def CellAt (K : PySem.W.Frag) (B H : Hp) (a : Addr) (s : Dat) : Prop := ∃ o, H a = some o ∧ CellO K B o s
theorem CellO.mono {K : PySem.W.Frag} {B B' : Hp} {o : HO} {s : Dat} (e : Ex B B') (h : CellO K B o s) : CellO K B' o s := by
  unfold CellO at h ⊢
  split at h <;> first
    | exact h.elim
    | exact Reps.mono e h
    | exact ⟨h.1, RepF.mono e h.2⟩
    | exact ⟨h.1, Reps.mono e h.2⟩
    | exact ⟨h.1, fun pos cv hc => let ⟨c, h1, h2⟩ := h.2 pos cv hc; ⟨c, h1, e _ _ h2⟩⟩
    | exact h
theorem CellAt.lst {K : PySem.W.Frag} {B H : Hp} {a : Addr} {ds : List Dat} (h : CellAt K B H a (.lst ds)) : ∃ vs, H a = some (.lst vs) ∧ Reps K B vs ds := by
  obtain ⟨o, h1, h2⟩ := h
  cases o <;> first
    | exact h2.elim
    | exact ⟨_, h1, h2⟩
theorem CellAt.ins {K : PySem.W.Frag} {B H : Hp} {a C : Addr} {fs : List (Str × Dat)} (h : CellAt K B H a (.ins C fs)) : ∃ dx vs, H a = some (.ins C dx vs) ∧ RepF K B vs fs := by
  obtain ⟨o, h1, h2⟩ := h
  cases o <;> first
    | exact h2.elim
    | (obtain ⟨rfl, h2⟩ := h2; exact ⟨_, _, h1, h2⟩)
theorem CellAt.dic {K : PySem.W.Frag} {B H : Hp} {a : Addr} {ks : List (List Int)} (h : CellAt K B H a (.dic ks)) : ∃ kvs, H a = some (.dT kvs) ∧ kvs.map (·.1) = ks.map fun k => k.map Sum.inl := by
  obtain ⟨o, h1, h2⟩ := h
  cases o <;> first
    | exact h2.elim
    | exact ⟨_, h1, h2⟩
theorem CellAt.lsa {K : PySem.W.Frag} {B H : Hp} {a p : Addr} {ds : List Dat} (h : CellAt K B H a (.lsa p ds)) : ∃ vs, H a = some (.lst vs) ∧ Reps K B vs ds := by
  obtain ⟨o, h1, h2⟩ := h
  cases o <;> first
    | exact h2.elim
    | exact ⟨_, h1, h2⟩
theorem CellAt.ofL {K : PySem.W.Frag} {B H : Hp} {a : Addr} {vs : List V} {ds : List Dat} (h : H a = some (.lst vs)) (r : Reps K B vs ds) : CellAt K B H a (.lst ds) := ⟨_, h, r⟩
theorem CellAt.ofI {K : PySem.W.Frag} {B H : Hp} {a C dx : Addr} {vs : List (Str × V)} {fs : List (Str × Dat)} (h : H a = some (.ins C dx vs)) (r : RepF K B vs fs) : CellAt K B H a (.ins C fs) := ⟨_, h, rfl, r⟩
/-- fields that tell of changed things ahead of this one -/
def LkO (as : List Addr) (k : Nat) (o : HO) (s : Dat) : Prop := ∀ C fs f j, s = .ins C fs → fs.lookup f = some (.cel j) → j < k → ∃ b dx vs, as[j]? = some b ∧ o = .ins C dx vs ∧ vs.lookup f = some (.ref b)
structure Ok (K : PySem.W.Frag) (B H : Hp) (as : List Addr) (S : List Dat) : Prop where
  ex : Ex B H
  len : as.length = S.length
  cells : ∀ (k : Nat) (a : Addr) (s : Dat), as[k]? = some a → S[k]? = some s → B a = none ∧ CellAt K B H a s
  nd : as.Nodup
  lk : ∀ (k : Nat) (a : Addr) (s : Dat) (o : HO), as[k]? = some a → S[k]? = some s → H a = some o → LkO as k o s
  ntb : ∀ (a : Addr) (ps : Array Value), B a ≠ some (.tbl ps)
  tb : ∀ (k : Nat) (d : Dat) (P : Addr), S[k]? = some d → adrOf d = some P → as[k]? = some P
/-- what never changes: tuples, codes of lambdas -/
def Fixd (o : HO) : Prop := (∃ xs, o = .tup xs) ∨ ∃ a q, o = LamX.CodeO a q
theorem Fixd.lst {xs : List V} (h : Fixd (.lst xs)) : False := by
  rcases h with ⟨_, h⟩ | ⟨_, _, h⟩
  · cases h
  · unfold LamX.CodeO at h; cases h
theorem Fixd.ins {C dx : Addr} {xs : List (Str × V)} (h : Fixd (.ins C dx xs)) : False := by
  rcases h with ⟨_, h⟩ | ⟨_, _, h⟩
  · cases h
  · unfold LamX.CodeO at h; cases h
theorem Fixd.dT {xs : List (List L2.Key × V)} (h : Fixd (.dT xs)) : False := by
  rcases h with ⟨_, h⟩ | ⟨_, _, h⟩
  · cases h
  · unfold LamX.CodeO at h; cases h
theorem Fixd.tbl {xs : Array Value} (h : Fixd (.tbl xs)) : False := by
  rcases h with ⟨_, h⟩ | ⟨_, _, h⟩
  · cases h
  · unfold LamX.CodeO at h; cases h
def Nn (H : Hp) (a : Addr) : Prop := ∀ o, H a = some o → ∃ ps, o = .tbl ps
theorem Nn.of {H : Hp} {a : Addr} (h : H a = none) : Nn H a := fun o q => by rw [h] at q; cases q
theorem Nn.no {H : Hp} {a : Addr} {o : HO} (h : Nn H a) (q : H a = some o) (nt : ∀ ps, o ≠ .tbl ps) : False := by
  obtain ⟨ps, e⟩ := h o q
  exact nt ps e
/-- p is new: nothing of what was known or changed -/
def Fresh (H : Hp) (as : List Addr) (p : Addr) : Prop := p ∉ as ∧ Nn H p
structure Evo (B H : Hp) (as : List Addr) (B' H' : Hp) : Prop where
  ex : Ex B B'
  fr : ∀ a o, a ∉ as → H a = some o → (∀ ps, o ≠ .tbl ps) → H' a = some o
  gr : ∀ a o, H a = some o → (∀ ps, o ≠ .tbl ps) → B' a = B a ∨ ∃ o', Fixd o' ∧ H' a = some o'
  tp : ∀ a o, Fixd o → H a = some o → H' a = some o
  pr : ∀ a o, H a = some o → (∀ ps, o ≠ .tbl ps) → ∃ o', H' a = some o' ∧ ∀ ps, o' ≠ .tbl ps
section
variable {K : PySem.W.Frag} {B B' B1 B2 H H' H1 H2 : Hp} {as as' : List Addr} {S S' : List Dat} {σ : L2.St} {env : Env1} {v : V} {s : Sl}
theorem RepS.mono (e : Ex B B') (h : RepS K B as v s) : RepS K B' as v s := by
  cases s with
  | d x => exact Rep.mono e h
  | c k => exact h
theorem RepS.grow {as1 : List Addr} (h : RepS K B as v s) : RepS K B (as ++ as1) v s := by
  cases s with
  | d x => exact h
  | c k =>
    obtain ⟨a, q, e⟩ := h
    exact ⟨a, by rw [List.getElem?_append_left (List.getElem?_eq_some_iff.mp q).1]; exact q, e⟩
theorem RepSs.mono (e : Ex B B') : ∀ {vs : List V} {ss : List Sl}, RepSs K B as vs ss → RepSs K B' as vs ss
  | _, _, .nil => .nil
  | _, _, .cons h r => .cons (h.mono e) (RepSs.mono e r)
theorem RepSs.append : ∀ {vs ws : List V} {ss ts : List Sl}, RepSs K B as vs ss → RepSs K B as ws ts → RepSs K B as (vs ++ ws) (ss ++ ts)
  | _, _, _, _, .nil, h => h
  | _, _, _, _, .cons h r, q => .cons h (RepSs.append r q)
theorem RepSs.length : ∀ {vs : List V} {ss : List Sl}, RepSs K B as vs ss → vs.length = ss.length
  | _, _, .nil => rfl
  | _, _, .cons _ r => by rw [List.length_cons, List.length_cons, RepSs.length r]
theorem RepSs.get : ∀ {vs : List V} {ss : List Sl} {i : Nat} {s : Sl}, RepSs K B as vs ss → ss[i]? = some s → ∃ v, vs[i]? = some v ∧ RepS K B as v s
  | _, _, _, _, .nil, e => by simp at e
  | _, _, 0, _, .cons h _, e => by simp at e; subst e; exact ⟨_, rfl, h⟩
  | _, _, i + 1, s, .cons _ r, e => by
    obtain ⟨v, h1, h2⟩ := RepSs.get (i := i) (s := s) r (by simpa using e)
    exact ⟨v, by simpa using h1, h2⟩
theorem RepSs.ds : ∀ {vs : List V} {ds : List Dat}, RepSs K B as vs (ds.map Sl.d) → Reps K B vs ds
  | _, [], .nil => .nil
  | _, d :: ds, .cons h r => .cons h (RepSs.ds r)
theorem EnvR.mono (e : Ex B B') (h : EnvR K B as σ env) : EnvR K B' as σ env :=
  ⟨h.1, fun i s q => by obtain ⟨v, q1, q2⟩ := h.2 i s q; exact ⟨v, q1, q2.mono e⟩⟩
theorem EnvR.grow {as1 : List Addr} (h : EnvR K B as σ env) : EnvR K B (as ++ as1) σ env :=
  ⟨h.1, fun i s q => by obtain ⟨v, q1, q2⟩ := h.2 i s q; exact ⟨v, q1, q2.grow⟩⟩
theorem EnvR.set (i : Nat) (h : EnvR K B as σ env) (hv : RepS K B as v s) : EnvR K B as (σ.set i (some v)) (env.set i (some s)) := by
  refine ⟨by rw [List.length_set, List.length_set, h.1], fun j t q => ?_⟩
  by_cases e : i = j
  · subst e
    have hi : i < env.length := by
      have := (List.getElem?_eq_some_iff.mp q).1
      rw [List.length_set] at this
      exact this
    rw [List.getElem?_set_self hi] at q
    cases q
    exact ⟨v, by rw [List.getElem?_set_self (by rw [h.1]; exact hi)], hv⟩
  · rw [List.getElem?_set_ne e] at q
    obtain ⟨w, q1, q2⟩ := h.2 j t q
    exact ⟨w, by rw [List.getElem?_set_ne e]; exact q1, q2⟩
theorem EnvR.unset (i : Nat) (h : EnvR K B as σ env) : EnvR K B as (σ.set i none) (env.set i none) := by
  refine ⟨by rw [List.length_set, List.length_set, h.1], fun j t q => ?_⟩
  by_cases e : i = j
  · subst e
    have hi : i < env.length := by
      have := (List.getElem?_eq_some_iff.mp q).1
      rw [List.length_set] at this
      exact this
    rw [List.getElem?_set_self hi] at q
    cases q
  · rw [List.getElem?_set_ne e] at q
    obtain ⟨w, q1, q2⟩ := h.2 j t q
    exact ⟨w, by rw [List.getElem?_set_ne e]; exact q1, q2⟩
theorem EnvR.forget (i : Nat) (x : Option V) (h : EnvR K B as σ env) : EnvR K B as (σ.set i x) (env.set i none) := by
  refine ⟨by rw [List.length_set, List.length_set, h.1], fun j t q => ?_⟩
  by_cases e : i = j
  · subst e
    have hi : i < env.length := by
      have := (List.getElem?_eq_some_iff.mp q).1
      rw [List.length_set] at this
      exact this
    rw [List.getElem?_set_self hi] at q
    cases q
  · rw [List.getElem?_set_ne e] at q
    obtain ⟨w, q1, q2⟩ := h.2 j t q
    exact ⟨w, by rw [List.getElem?_set_ne e]; exact q1, q2⟩
theorem EnvR.start {N : List Str} {vs : List V} {ss : List Sl} (h : RepSs K B as vs ss) : EnvR K B as (start N vs) (ss.map some ++ List.replicate (N.length - ss.length) none) := by
  unfold L2.start
  refine ⟨by rw [List.length_append, List.length_append, List.length_map, List.length_map, List.length_replicate, List.length_replicate, h.length], fun i s q => ?_⟩
  by_cases hi : i < ss.length
  · rw [List.getElem?_append_left (by simpa using hi), List.getElem?_map] at q
    cases e : ss[i]? with
    | none => rw [e] at q; cases q
    | some t =>
      rw [e] at q
      cases q
      obtain ⟨v, q1, q2⟩ := h.get e
      refine ⟨v, ?_, q2⟩
      rw [List.getElem?_append_left (by rw [List.length_map, h.length]; exact hi), List.getElem?_map, q1]
      rfl
  · rw [List.getElem?_append_right (by simpa using hi), List.getElem?_replicate] at q
    split at q <;> cases q
def wipeE (env : Env1) : List Nat → Env1
  | [] => env
  | v :: vs => (wipeE env vs).set v none
theorem EnvR.wipe (h : EnvR K B as σ env) : ∀ vs : List Nat, EnvR K B as (L2.wipe σ vs) (wipeE env vs)
  | [] => h
  | v :: vs => (EnvR.wipe h vs).unset v
theorem Evo.refl : Evo B H as B H := ⟨Evl.Ex.refl B, fun _ _ _ h _ => h, fun _ _ _ _ => .inl rfl, fun _ _ _ h => h, fun _ o h nt => ⟨o, h, nt⟩⟩
theorem Evo.trans (a : Evo B H as B1 H1) (b : Evo B1 H1 as B2 H2) : Evo B H as B2 H2 :=
  ⟨a.ex.trans b.ex, fun x o n h nt => b.fr x o n (a.fr x o n h nt) nt, fun x o h nt => let ⟨o1, h1, n1⟩ := a.pr x o h nt; (b.gr x o1 h1 n1).elim (fun e => (a.gr x o h nt).elim (fun e2 => .inl (e.trans e2)) fun ⟨o, fo, h⟩ => .inr ⟨o, fo, b.tp x o fo h⟩) .inr, fun x o fo h => b.tp x o fo (a.tp x o fo h), fun x o h nt => let ⟨o1, h1, n1⟩ := a.pr x o h nt; b.pr x o1 h1 n1⟩
/-- a new object, known from then on -/
theorem Ok.new {p : Addr} {o : HO} (c : Ok K B H as S) (hp : H p = none) (ho : ∀ ps, o ≠ .tbl ps := by exact fun _ z => nomatch z) : Ok K (upd B p o) (upd H p o) as S where
  ex := fun a u e => by
    by_cases q : a = p
    · subst q; rw [upd_same] at e ⊢; exact e
    · rw [upd_ne q] at e ⊢; exact c.ex a u e
  len := c.len
  cells := fun k a s h1 h2 => by
    obtain ⟨q1, q2⟩ := c.cells k a s h1 h2
    have hB : Ex B (upd B p o) := Evl.Ex.new (by
      cases e : B p with
      | none => rfl
      | some u => rw [c.ex p u e] at hp; cases hp)
    have ne : a ≠ p := by
      intro z
      subst z
      obtain ⟨o, q3, _⟩ := q2; rw [hp] at q3; cases q3
    rw [upd_ne ne]
    refine ⟨q1, ?_⟩
    obtain ⟨o, q3, q4⟩ := q2
    exact ⟨o, by rw [upd_ne ne]; exact q3, q4.mono hB⟩
  nd := c.nd
  lk := fun k a s o h1 h2 h3 => by
    have ne : a ≠ p := by
      rintro rfl
      obtain ⟨_, _, q3, _⟩ := c.cells k a s h1 h2
      rw [hp] at q3; cases q3
    rw [upd_ne ne] at h3
    exact c.lk k a s o h1 h2 h3
  tb := c.tb
  ntb := fun a ps e => by
    by_cases q : a = p
    · subst q; rw [upd_same] at e; exact ho ps (Option.some.inj e)
    · rw [upd_ne q] at e; exact c.ntb a ps e
theorem Ok.Bnone {p : Addr} (c : Ok K B H as S) (hp : H p = none) : B p = none := by
  cases e : B p with
  | none => rfl
  | some u => rw [c.ex p u e] at hp; cases hp
theorem Evo.new {p : Addr} {o : HO} (c : Ok K B H as S) (hp : H p = none) : Evo B H as (upd B p o) (upd H p o) :=
  ⟨Evl.Ex.new (c.Bnone hp), fun a u _ h _ => by rw [upd_ne (ne_of_none h hp)]; exact h, fun a o h _ => .inl (upd_ne (ne_of_none h hp)), fun a xs _ h => by rw [upd_ne (ne_of_none h hp)]; exact h, fun a o h nt => ⟨o, by rw [upd_ne (ne_of_none h hp)]; exact h, nt⟩⟩
end
end RW

set_option Elab.async false
set_option linter.all false
set_option maxRecDepth 100000
set_option maxHeartbeats 4000000
namespace RW
open PySem PySem.Spec PyProof.Rows L2
open Evl (Ex)

/-! ### what an expression gives -/
def Ev (K : PySem.W.Frag) (te : TE) (env : Env1) (S : List Dat) (r : Sl) (S' : List Dat) : Prop :=
  ∀ B H as σ, Ok K B H as S → EnvR K B as σ env → ∀ Q : VK, (∀ v B' H', Ok K B' H' as S' → Evo B H as B' H' → RepS K B' as v r → Q v H') → te σ H Q
/-- a new list that nothing else knows -/
def EvN (K : PySem.W.Frag) (te : TE) (env : Env1) (S : List Dat) (ds : List Dat) (S' : List Dat) : Prop :=
  ∀ B H as σ, Ok K B H as S → EnvR K B as σ env → ∀ Q : VK, (∀ p B' H' vs, Ok K B' H' as S' → Evo B H as B' H' → Fresh H as p → B' p = none → H' p = some (.lst vs) → Reps K B' vs ds → Q (.ref p) H') → te σ H Q
def EvT (K : PySem.W.Frag) (tt : TT) (env : Env1) (S : List Dat) (b : Bool) (S' : List Dat) : Prop :=
  ∀ B H as σ, Ok K B H as S → EnvR K B as σ env → ∀ Q : Bool → Hp → Prop, (∀ B' H', Ok K B' H' as S' → Evo B H as B' H' → Q b H') → tt σ H Q
def EvA (K : PySem.W.Frag) (ta : TA) (env : Env1) (S : List Dat) (rs : List Sl) (S' : List Dat) : Prop :=
  ∀ B H as σ, Ok K B H as S → EnvR K B as σ env → ∀ Q : List V → Hp → Prop, (∀ vs B' H', Ok K B' H' as S' → Evo B H as B' H' → RepSs K B' as vs rs → Q vs H') → ta σ H Q
/-- a two-place operation by values -/
def Op2 (K : PySem.W.Frag) (r : R2) (x y : Sl) (S : List Dat) (z : Dat) : Prop :=
  ∀ B H as v w, Ok K B H as S → RepS K B as v x → RepS K B as w y → ∀ Q : VK, (∀ u B' H', Ok K B' H' as S → Evo B H as B' H' → Rep K B' u z → Q u H') → r v w H Q
def Op1 (K : PySem.W.Frag) (r : V → Hp → VK → Prop) (x : Sl) (S : List Dat) (z : Dat) : Prop :=
  ∀ B H as v, Ok K B H as S → RepS K B as v x → ∀ Q : VK, (∀ u B' H', Ok K B' H' as S → Evo B H as B' H' → Rep K B' u z → Q u H') → r v H Q
/-- a call by values; it may change what is changed -/
def CallD (K : PySem.W.Frag) (r : List V → Hp → VK → Prop) (xs : List Sl) (S : List Dat) (z : Dat) (S' : List Dat) : Prop :=
  ∀ B H as vs, Ok K B H as S → RepSs K B as vs xs → ∀ Q : VK, (∀ u B' H', Ok K B' H' as S' → Evo B H as B' H' → Rep K B' u z → Q u H') → r vs H Q
section
variable {K : PySem.W.Frag} {te ta tb tc : TE} {tt tu : TT} {tA tR : TA} {env : Env1} {S S1 S2 S3 : List Dat} {x y z : Sl} {d e : Dat} {r : R2}
theorem ev_var {i : Nat} (h : env[i]? = some (some x)) : Ev K (tVar i) env S x S := fun B H as σ c g Q q => by
  obtain ⟨v, h1, h2⟩ := g.2 i x h
  exact ⟨v, h1, q v B H c Evo.refl h2⟩
theorem ev_int {i : Int} : Ev K (tC (.int i)) env S (.d (.int i)) S := fun B H as σ c g Q q => q _ B H c Evo.refl (.int i)
theorem ev_bl {b : Bool} : Ev K (tC (.bl b)) env S (.d (.bl b)) S := fun B H as σ c g Q q => q _ B H c Evo.refl (.bl b)
theorem ev_str {b : Str} : Ev K (tC (.str b)) env S (.d (.str b)) S := fun B H as σ c g Q q => q _ B H c Evo.refl (.str b)
theorem ev_non : Ev K (tC .non) env S (.d .non) S := fun B H as σ c g Q q => q _ B H c Evo.refl .non
theorem ev_ty {n : String} : Ev K (tC (.ty n)) env S (.d (.ty n)) S := fun B H as σ c g Q q => q _ B H c Evo.refl (.ty n)
theorem ev_adr {a : Addr} : Ev K (tC (.ref a)) env S (.d (.adr a)) S := fun B H as σ c g Q q => q _ B H c Evo.refl (.adr a)
theorem Ev.to {r r' : Sl} (h : Ev K te env S r S1) (e : r = r') : Ev K te env S r' S1 := e ▸ h
theorem EvT.to {b b' : Bool} (h : EvT K tt env S b S1) (e : b = b') : EvT K tt env S b' S1 := e ▸ h
theorem ev_op (ha : Ev K ta env S x S1) (hb : Ev K tb env S1 y S2) (hr : Op2 K r x y S2 d) : Ev K (tOp r ta tb) env S (.d d) S2 := fun B H as σ c g Q q =>
  ha B H as σ c g _ fun v B1 H1 c1 e1 r1 => hb B1 H1 as σ c1 (g.mono e1.ex) _ fun w B2 H2 c2 e2 r2 =>
    hr B2 H2 as v w c2 (r1.mono e2.ex) r2 _ fun u B3 H3 c3 e3 r3 => q u B3 H3 c3 ((e1.trans e2).trans e3) r3
theorem ev_un {r : V → Hp → VK → Prop} (ha : Ev K ta env S x S1) (hr : Op1 K r x S1 d) : Ev K (tUn r ta) env S (.d d) S1 := fun B H as σ c g Q q =>
  ha B H as σ c g _ fun v B1 H1 c1 e1 r1 => hr B1 H1 as v c1 r1 _ fun u B3 H3 c3 e3 r3 => q u B3 H3 c3 (e1.trans e3) r3
theorem op2_int0 {g : Int → Int → V} {i j : Int} (h : ∀ B : Hp, Rep K B (g i j) d) : Op2 K (rI0 g) (.d (.int i)) (.d (.int j)) S d := fun B H as v w c h1 h2 Q q => by
  cases h1; cases h2
  exact ⟨i, j, rfl, rfl, q _ B H c Evo.refl (h B)⟩
theorem op2_int {C : Int → Int → Prop} {g : Int → Int → V} {i j : Int} (hc : C i j) (h : ∀ B : Hp, Rep K B (g i j) d) : Op2 K (rI C g) (.d (.int i)) (.d (.int j)) S d := fun B H as v w c h1 h2 Q q => by
  cases h1; cases h2
  exact ⟨i, j, rfl, rfl, hc, q _ B H c Evo.refl (h B)⟩
theorem op1_int {g : Int → V} {i : Int} (h : ∀ B : Hp, Rep K B (g i) d) : Op1 K (rU g) (.d (.int i)) S d := fun B H as v c h1 Q q => by
  cases h1
  exact ⟨i, rfl, q _ B H c Evo.refl (h B)⟩
theorem ea_nil : EvA K tNil env S [] S := fun B H as σ c g Q q => q [] B H c Evo.refl .nil
theorem ea_cons {xs : List Sl} (h : Ev K ta env S x S1) (hr : EvA K tA env S1 xs S2) : EvA K (tCons ta tA) env S (x :: xs) S2 := fun B H as σ c g Q q =>
  h B H as σ c g _ fun v B1 H1 c1 e1 r1 => hr B1 H1 as σ c1 (g.mono e1.ex) _ fun vs B2 H2 c2 e2 r2 => q _ B2 H2 c2 (e1.trans e2) (.cons (r1.mono e2.ex) r2)
theorem ev_tup {ds : List Dat} (h : EvA K tA env S (ds.map Sl.d) S1) (hl : ds.length ≤ sizeLine) : Ev K (tTup tA) env S (.d (.tup ds)) S1 := fun B H as σ c g Q q =>
  h B H as σ c g _ fun vs B1 H1 c1 e1 r1 => ⟨by rw [r1.ds.length]; exact hl, fun p hp =>
    q _ (upd B1 p (.tup vs)) _ (c1.new hp) (e1.trans (Evo.new c1 hp)) (.tup (.inl (.inl upd_same)) (r1.ds.mono (Evl.Ex.new (c1.Bnone hp))))⟩
/-- a list that nothing knows becomes known -/
theorem Ok.know {B H : Hp} {as : List Addr} {p : Addr} {ob : HO} (c : Ok K B H as S) (hp : H p = some ob) (hb : B p = none) (ha : p ∉ as) (ho : ∀ ps, ob ≠ .tbl ps := by exact fun _ z => nomatch z) : Ok K (upd B p ob) H as S where
  ex := fun a u e => by
    by_cases q : a = p
    · subst q; rw [upd_same] at e; cases e; exact hp
    · rw [upd_ne q] at e; exact c.ex a u e
  len := c.len
  cells := fun k a s h1 h2 => by
    obtain ⟨q1, q2⟩ := c.cells k a s h1 h2
    have ne : a ≠ p := by
      intro z
      subst z
      exact ha (List.mem_of_getElem? h1)
    rw [upd_ne ne]
    refine ⟨q1, ?_⟩
    obtain ⟨o, q3, q4⟩ := q2
    exact ⟨o, q3, q4.mono (Evl.Ex.new hb)⟩
  nd := c.nd
  lk := c.lk
  tb := c.tb
  ntb := fun a ps e => by
    by_cases q : a = p
    · subst q; rw [upd_same] at e; exact ho ps (Option.some.inj e)
    · rw [upd_ne q] at e; exact c.ntb a ps e
theorem Ok.there {B H : Hp} {as : List Addr} {p : Addr} (c : Ok K B H as S) (hp : p ∈ as) : ∃ o, H p = some o := by
  obtain ⟨k, hk⟩ := List.mem_iff_getElem?.mp hp
  have hl : k < S.length := by rw [← c.len]; exact (List.getElem?_eq_some_iff.mp hk).1
  obtain ⟨_, o, q3, _⟩ := c.cells k p S[k] hk (List.getElem?_eq_getElem hl)
  exact ⟨o, q3⟩
theorem Ok.fresh {B H : Hp} {as : List Addr} {p : Addr} (c : Ok K B H as S) (hp : H p = none) : p ∉ as := fun h => by
  obtain ⟨o, q⟩ := c.there h
  rw [hp] at q; cases q
theorem EvN.ev {ds : List Dat} (h : EvN K te env S ds S1) : Ev K te env S (.d (.lst ds)) S1 := fun B H as σ c g Q q =>
  h B H as σ c g _ fun p B1 H1 vs c1 e1 hp hb hl r1 =>
    q _ (upd B1 p (.lst vs)) H1 (c1.know hl hb hp.1) ⟨e1.ex.trans (Evl.Ex.new hb), e1.fr, fun a o h nt => by rw [upd_ne (by rintro rfl; exact hp.2.no h nt)]; exact e1.gr a o h nt, e1.tp, e1.pr⟩ (.lst upd_same (r1.mono (Evl.Ex.new hb)))
/-- made at p just now -/
theorem evn_new {B H B1 H1 : Hp} {as : List Addr} {p : Addr} {vs : List V} {ds : List Dat} {Q : VK} (c : Ok K B H as S) (c1 : Ok K B1 H1 as S1) (e1 : Evo B H as B1 H1) (hp : H1 p = none) (r1 : Reps K B1 vs ds)
    (q : ∀ p B' H' vs, Ok K B' H' as S1 → Evo B H as B' H' → Fresh H as p → B' p = none → H' p = some (.lst vs) → Reps K B' vs ds → Q (.ref p) H') : Q (.ref p) (upd H1 p (.lst vs)) := by
  have hp0 : Nn H p := fun o h => by
    by_cases nt : ∀ ps, o ≠ .tbl ps
    · obtain ⟨o', h', _⟩ := e1.pr p o h nt
      rw [hp] at h'; cases h'
    · exact Classical.byContradiction fun z => nt fun ps e => z ⟨ps, e⟩
  have hpa : p ∉ as := c1.fresh hp
  refine q p B1 _ vs ⟨fun a u e => ?_, c1.len, fun k a s h1 h2 => ?_, c1.nd, fun k a s o h1 h2 h3 => c1.lk k a s o h1 h2 (by rw [upd_ne (by rintro rfl; exact hpa (List.mem_of_getElem? h1))] at h3; exact h3), c1.ntb, c1.tb⟩ ⟨e1.ex, fun a u n h nt => ?_, fun a o h nt => (e1.gr a o h nt).imp id fun ⟨o', fo, z⟩ => ⟨o', fo, by rw [upd_ne (ne_of_none z hp)]; exact z⟩, fun a o fo h => ?_, fun a o h nt => ?_⟩ ⟨hpa, hp0⟩ (c1.Bnone hp) upd_same r1
  · rw [upd_ne (by rintro rfl; rw [c1.Bnone hp] at e; cases e)]
    exact c1.ex a u e
  · obtain ⟨q1, q2⟩ := c1.cells k a s h1 h2
    have ne : a ≠ p := by rintro rfl; exact hpa (List.mem_of_getElem? h1)
    refine ⟨q1, ?_⟩
    obtain ⟨o, q3, q4⟩ := q2
    exact ⟨o, by rw [upd_ne ne]; exact q3, q4⟩
  · rw [upd_ne (by rintro rfl; exact hp0.no h nt)]
    exact e1.fr a u n h nt
  · exact (by
      have h1 := e1.tp a o fo h
      rw [upd_ne (ne_of_none h1 hp)]; exact h1)
  · obtain ⟨o', h', n'⟩ := e1.pr a o h nt
    exact ⟨o', by rw [upd_ne (ne_of_none h' hp)]; exact h', n'⟩
theorem en_lst {ds : List Dat} (h : EvA K tA env S (ds.map Sl.d) S1) (hl : ds.length ≤ sizeLine) : EvN K (tLst tA) env S ds S1 := fun B H as σ c g Q q =>
  h B H as σ c g _ fun vs B1 H1 c1 e1 r1 => ⟨by rw [r1.ds.length]; exact hl, fun p hp => evn_new c c1 e1 hp r1.ds q⟩

/-! ### sequences as they are read -/
/-- the k-th changed thing is a list of ds -/
def LCell (S : List Dat) (k : Nat) (ds : List Dat) : Prop := S[k]? = some (.lst ds) ∨ ∃ p, S[k]? = some (.lsa p ds)
theorem Ok.lcell {B H : Hp} {as : List Addr} {k : Nat} {a : Addr} {ds : List Dat} (c : Ok K B H as S) (ha : as[k]? = some a) (h : LCell S k ds) : B a = none ∧ ∃ vs, H a = some (.lst vs) ∧ Reps K B vs ds := by
  rcases h with h | ⟨p, h⟩
  · obtain ⟨q0, q⟩ := c.cells k a _ ha h
    exact ⟨q0, q.lst⟩
  · obtain ⟨q0, q⟩ := c.cells k a _ ha h
    exact ⟨q0, q.lsa⟩
/-- a list or a tuple (known, or changed now) of ds -/
def Seq (S : List Dat) (x : Sl) (ds : List Dat) : Prop := x = .d (.lst ds) ∨ x = .d (.tup ds) ∨ ∃ k, x = .c k ∧ LCell S k ds
theorem Seq.lst {ds : List Dat} : Seq S (.d (.lst ds)) ds := .inl rfl
theorem Seq.tup {ds : List Dat} : Seq S (.d (.tup ds)) ds := .inr (.inl rfl)
theorem Seq.cell {ds : List Dat} {k : Nat} (h : S[k]? = some (.lst ds)) : Seq S (.c k) ds := .inr (.inr ⟨k, rfl, .inl h⟩)
theorem Seq.cellA {ds : List Dat} {k : Nat} {p : Addr} (h : S[k]? = some (.lsa p ds)) : Seq S (.c k) ds := .inr (.inr ⟨k, rfl, .inr ⟨p, h⟩⟩)
theorem Seq.read {B H : Hp} {as : List Addr} {v : V} {ds : List Dat} (c : Ok K B H as S) (h : Seq S x ds) (r : RepS K B as v x) : ∃ a k vs, v = .ref a ∧ Sq K k H a vs ∧ Reps K B vs ds := by
  rcases h with rfl | rfl | ⟨k, rfl, hk⟩
  · cases r with
    | lst h r => exact ⟨_, true, _, rfl, Or.inl (Or.inl (c.ex _ _ h)), r⟩
  · cases r with
    | tup h r => exact ⟨_, false, _, rfl, Evl.ex_t c.ex h, r⟩
  · obtain ⟨a, ha, rfl⟩ := r
    obtain ⟨_, vs, q1, q2⟩ := c.lcell ha hk
    exact ⟨a, true, vs, rfl, Or.inl (Or.inl q1), q2⟩
/-- .. that is a list -/
def SeqL (S : List Dat) (x : Sl) (ds : List Dat) : Prop := x = .d (.lst ds) ∨ ∃ k, x = .c k ∧ LCell S k ds
theorem SeqL.read {B H : Hp} {as : List Addr} {v : V} {ds : List Dat} (c : Ok K B H as S) (h : SeqL S x ds) (r : RepS K B as v x) : ∃ a vs, v = .ref a ∧ H a = some (.lst vs) ∧ Reps K B vs ds := by
  rcases h with rfl | ⟨k, rfl, hk⟩
  · cases r with
    | lst h r => exact ⟨_, _, rfl, c.ex _ _ h, r⟩
  · obtain ⟨a, ha, rfl⟩ := r
    obtain ⟨_, vs, q1, q2⟩ := c.lcell ha hk
    exact ⟨a, vs, rfl, q1, q2⟩
theorem SeqL.lst {ds : List Dat} : SeqL S (.d (.lst ds)) ds := .inl rfl
theorem SeqL.cell {ds : List Dat} {k : Nat} (h : S[k]? = some (.lst ds)) : SeqL S (.c k) ds := .inr ⟨k, rfl, .inl h⟩
theorem SeqL.cellA {ds : List Dat} {k : Nat} {p : Addr} (h : S[k]? = some (.lsa p ds)) : SeqL S (.c k) ds := .inr ⟨k, rfl, .inr ⟨p, h⟩⟩
theorem sq_or {H : Hp} {a : Addr} {vs : List V} {k : Bool} (h : Sq K k H a vs) : SqL K H a vs ∨ SqT K H a vs := by
  cases k with
  | true => exact .inl h
  | false => exact .inr h
theorem atI_reps {B : Hp} {vs : List V} {ds : List Dat} {i : Int} {d : Dat} (r : Reps K B vs ds) (h : atI ds i = some d) : ∃ v, atI vs i = some v ∧ Rep K B v d := by
  unfold atI at h ⊢
  rw [r.length]
  cases e : ixN ds.length i with
  | none => rw [e] at h; cases h
  | some j =>
    rw [e] at h
    exact r.get h
/-- xs[i] -/
theorem op2_ix {ds : List Dat} {i : Int} (h : Seq S x ds) (hi : atI ds i = some d) : Op2 K (rIx K) x (.d (.int i)) S d := fun B H as v w c h1 h2 Q q => by
  obtain ⟨a, k, vs, rfl, hq, hr⟩ := h.read c h1
  obtain ⟨u, hu, ru⟩ := atI_reps hr hi
  cases h2
  cases k with
  | true => exact .inl ⟨a, vs, i, u, rfl, rfl, hq, hu, q u B H c Evo.refl ru⟩
  | false => exact .inr (.inl ⟨a, vs, i, u, rfl, rfl, hq, hu, q u B H c Evo.refl ru⟩)
end
end RW

set_option Elab.async false
set_option linter.all false
set_option maxRecDepth 100000
set_option maxHeartbeats 4000000
namespace RW
open PySem PySem.Spec PyProof.Rows L2
open Evl (Ex)

/-! ### statements -/
structure Post where
  nx : Env1 → List Dat → Prop := fun _ _ => False
  rt : Dat → List Dat → Prop := fun _ _ => False
  bk : Env1 → List Dat → Prop := fun _ _ => False
  ct : Env1 → List Dat → Prop := fun _ _ => False
  ok : Hp → Hp → List Addr → Prop := fun _ _ _ => True
/-- where a def's body stands: it was entered at B0, H0 with the changed things as0 -/
structure Fr (B0 H0 : Hp) (as0 : List Addr) (Bk : Hp) (B H : Hp) (as : List Addr) : Prop where
  kn : Ex Bk B
  base : as.take as0.length = as0
  evo : Evo B0 H0 as0 B H
  loc : ∀ a ∈ as.drop as0.length, Nn H0 a
def MeetE (K : PySem.W.Frag) (B0 H0 : Hp) (as0 : List Addr) (Bk : Hp) (p : Env1 → List Dat → Prop) (D : L2.St → Hp → Prop) : Prop :=
  ∀ env' S' B' H' as' σ', Fr B0 H0 as0 Bk B' H' as' → Ok K B' H' as' S' → EnvR K B' as' σ' env' → p env' S' → D σ' H'
structure Meets (K : PySem.W.Frag) (B0 H0 : Hp) (as0 : List Addr) (Bk : Hp) (D : Ends) (P : Post) : Prop where
  nx : MeetE K B0 H0 as0 Bk P.nx D.nx
  rt : ∀ v r S' B' H', Ok K B' H' as0 S' → Evo B0 H0 as0 B' H' → Rep K B' v r → P.rt r S' → D.rt v H'
  bk : MeetE K B0 H0 as0 Bk P.bk D.bk
  ct : MeetE K B0 H0 as0 Bk P.ct D.ct
  ok : P.ok B0 H0 as0
/-- run from env, S, where n of the changed things came with the call, it ends in P -/
def SP (K : PySem.W.Frag) (n : Nat) (ts : TS) (env : Env1) (S : List Dat) (P : Post) : Prop :=
  ∀ B0 H0 as0 Bk B H as σ, as0.length = n → Fr B0 H0 as0 Bk B H as → Ok K B H as S → EnvR K B as σ env → ∀ D : Ends, Meets K B0 H0 as0 Bk D P → ts D σ H
section
variable {K : PySem.W.Frag} {n : Nat} {te ta tb tc to ti : TE} {tt : TT} {tA tR : TA} {env env' : Env1} {S S1 S2 S3 : List Dat} {x y z : Sl} {d e : Dat} {ds : List Dat} {r : R2} {P P' : Post} {t u : TS}
  {B B0 B1 B' Bk H H0 H1 H' : Hp} {as as0 as1 : List Addr} {D : Ends} {σ : L2.St} {i : Nat}
theorem Evo.oldN (e : Evo B H as B1 H1) {a : Addr} (h : Nn H1 a) : Nn H a := fun o q => by
  by_cases nt : ∀ ps, o ≠ .tbl ps
  · obtain ⟨o', h', n'⟩ := e.pr a o q nt
    exact (h.no h' n').elim
  · exact Classical.byContradiction fun z => nt fun ps e => z ⟨ps, e⟩
theorem Evo.old (e : Evo B H as B1 H1) {a : Addr} (h : H1 a = none) : Nn H a := e.oldN (.of h)
theorem Ok.upto (c : Ok K B H as S) (k : Nat) : Ok K B H (as.take k) (S.take k) where
  ex := c.ex
  len := by rw [List.length_take, List.length_take, c.len]
  cells := fun j a s h1 h2 => by
    have hk : j < (as.take k).length := (List.getElem?_eq_some_iff.mp h1).1
    rw [List.length_take] at hk
    have hk' : j < k := by omega
    rw [List.getElem?_take_of_lt hk'] at h1 h2
    exact c.cells j a s h1 h2
  nd := c.nd.sublist (List.take_sublist _ _)
  ntb := c.ntb
  tb := fun j d P h hd => by
    have hk : j < (S.take k).length := (List.getElem?_eq_some_iff.mp h).1
    rw [List.length_take] at hk
    have hk' : j < k := by omega
    rw [List.getElem?_take_of_lt hk'] at h ⊢
    exact c.tb j d P h hd
  lk := fun j a s o h1 h2 h3 => by
    have hk : j < (as.take k).length := (List.getElem?_eq_some_iff.mp h1).1
    rw [List.length_take] at hk
    have hk' : j < k := by omega
    rw [List.getElem?_take_of_lt hk'] at h1 h2
    intro C fs f i e q1 q2
    obtain ⟨b, dx, vs, r1, r2⟩ := c.lk j a s o h1 h2 h3 C fs f i e q1 q2
    exact ⟨b, dx, vs, by rw [List.getElem?_take_of_lt (by omega)]; exact r1, r2⟩
theorem Fr.step (f : Fr B0 H0 as0 Bk B H as) (e : Evo B H as B1 H1) : Fr B0 H0 as0 Bk B1 H1 as where
  kn := f.kn.trans e.ex
  base := f.base
  evo := ⟨f.evo.ex.trans e.ex, fun a o hn q nt => e.fr a o (fun hm => by
      rw [← List.take_append_drop as0.length as, f.base] at hm
      rcases List.mem_append.mp hm with z | z
      · exact hn z
      · exact (f.loc a z).no q nt) (f.evo.fr a o hn q nt) nt, fun a o q nt => let ⟨o1, h1, n1⟩ := f.evo.pr a o q nt; (e.gr a o1 h1 n1).elim (fun z => (f.evo.gr a o q nt).elim (fun z2 => .inl (z.trans z2)) fun ⟨o, fo, h⟩ => .inr ⟨o, fo, e.tp a o fo h⟩) .inr, fun a o fo h => e.tp a o fo (f.evo.tp a o fo h), fun a o q nt => let ⟨o1, h1, n1⟩ := f.evo.pr a o q nt; e.pr a o1 h1 n1⟩
  loc := f.loc
theorem Fr.len (f : Fr B0 H0 as0 Bk B H as) : as0.length ≤ as.length := by
  have := congrArg List.length f.base
  rw [List.length_take] at this
  omega
/-- one more changed thing -/
theorem Fr.push {p : Addr} (f : Fr B0 H0 as0 Bk B H as) (h : Nn H0 p) : Fr B0 H0 as0 Bk B H (as ++ [p]) where
  kn := f.kn
  base := by rw [List.take_append_of_le_length f.len]; exact f.base
  evo := f.evo
  loc := fun a ha => by
    rw [List.drop_append_of_le_length f.len] at ha
    rcases List.mem_append.mp ha with z | z
    · exact f.loc a z
    · rw [List.mem_singleton.mp z]; exact h
theorem Ok.push {p : Addr} {s0 : Dat} (c : Ok K B H as S) (hb : B p = none) (ha : p ∉ as) (r : CellAt K B H p s0) (l : ∀ o, H p = some o → LkO as as.length o s0 := by exact fun _ _ _ _ _ _ h => nomatch h) (ht : ∀ P, adrOf s0 = some P → p = P := by exact fun _ h => nomatch h) : Ok K B H (as ++ [p]) (S ++ [s0]) where
  ex := c.ex
  len := by rw [List.length_append, List.length_append, c.len]; rfl
  cells := fun k a s h1 h2 => by
    by_cases hk : k < as.length
    · rw [List.getElem?_append_left hk] at h1
      rw [List.getElem?_append_left (by rw [← c.len]; exact hk)] at h2
      exact c.cells k a s h1 h2
    · have hk2 : ¬ k < S.length := by rw [← c.len]; exact hk
      rw [List.getElem?_append_right (by omega)] at h1 h2
      have e0 : k - as.length = 0 := by
        have := (List.getElem?_eq_some_iff.mp h1).1
        simp at this
        omega
      have e1 : k - S.length = 0 := by rw [← c.len]; exact e0
      rw [e0] at h1
      rw [e1] at h2
      simp at h1 h2
      subst h1 h2
      exact ⟨hb, r⟩
  nd := List.nodup_append.mpr ⟨c.nd, by simp, fun a h1 b h2 => by rw [List.mem_singleton.mp h2]; rintro rfl; exact ha h1⟩
  ntb := c.ntb
  tb := fun k d P h hd => by
    by_cases hk : k < S.length
    · rw [List.getElem?_append_left hk] at h
      rw [List.getElem?_append_left (by rw [c.len]; exact hk)]
      exact c.tb k d P h hd
    · rw [List.getElem?_append_right (by omega)] at h
      have e1 : k - S.length = 0 := by
        have := (List.getElem?_eq_some_iff.mp h).1
        simp at this
        omega
      rw [e1] at h
      simp at h
      subst h
      rw [List.getElem?_append_right (by rw [c.len]; omega), c.len, e1, ht P hd]
      rfl
  lk := fun k a s o h1 h2 h3 => by
    by_cases hk : k < as.length
    · rw [List.getElem?_append_left hk] at h1
      rw [List.getElem?_append_left (by rw [← c.len]; exact hk)] at h2
      intro C fs f i e q1 q2
      obtain ⟨b, dx, vs, r1, r2⟩ := c.lk k a s o h1 h2 h3 C fs f i e q1 q2
      exact ⟨b, dx, vs, by rw [List.getElem?_append_left (by omega)]; exact r1, r2⟩
    · have hk2 : ¬ k < S.length := by rw [← c.len]; exact hk
      rw [List.getElem?_append_right (by omega)] at h1 h2
      have e0 : k - as.length = 0 := by
        have := (List.getElem?_eq_some_iff.mp h1).1
        simp at this
        omega
      have e1 : k - S.length = 0 := by rw [← c.len]; exact e0
      rw [e0] at h1
      rw [e1] at h2
      simp at h1 h2
      subst h1 h2
      have ek : k = as.length := by omega
      subst ek
      intro C fs f i e q1 q2
      obtain ⟨b, dx, vs, r1, r2⟩ := l o h3 C fs f i e q1 q2
      exact ⟨b, dx, vs, by rw [List.getElem?_append_left (by omega)]; exact r1, r2⟩
theorem SP.imp (h : SP K n t env S P) (hn : ∀ env' S', P.nx env' S' → P'.nx env' S') (hr : ∀ r S', P.rt r S' → P'.rt r S') (hb : ∀ env' S', P.bk env' S' → P'.bk env' S') (hc : ∀ env' S', P.ct env' S' → P'.ct env' S') (ho : ∀ B0 H0 as0, P'.ok B0 H0 as0 → P.ok B0 H0 as0 := by exact fun _ _ _ h => h) : SP K n t env S P' :=
  fun B0 H0 as0 Bk B H as σ hl f c g D m => h B0 H0 as0 Bk B H as σ hl f c g D ⟨fun a b c d e f g h i p => m.nx a b c d e f g h i (hn _ _ p), fun a b c d e f g h p => m.rt a b c d e f g h (hr _ _ p),
    fun a b c d e f g h i p => m.bk a b c d e f g h i (hb _ _ p), fun a b c d e f g h i p => m.ct a b c d e f g h i (hc _ _ p), ho _ _ _ m.ok⟩
theorem sp_seq (h : SP K n t env S { P with nx := P'.nx }) (k : ∀ env' S', P'.nx env' S' → SP K n u env' S' P) : SP K n (tSeq t u) env S P := fun B0 H0 as0 Bk B H as σ hl f c g D m =>
  h B0 H0 as0 Bk B H as σ hl f c g { D with nx := u D } ⟨fun env' S' B' H' as' σ' f' c' g' p => k env' S' p B0 H0 as0 Bk B' H' as' σ' hl f' c' g' D m, m.rt, m.bk, m.ct, m.ok⟩
/-- the first one goes on at one place alone -/
theorem sp_then (h : SP K n t env S { P with nx := fun env' S' => env' = env1 ∧ S' = S1 }) (k : SP K n u env1 S1 P) : SP K n (tSeq t u) env S P :=
  sp_seq (P' := { nx := fun env' S' => env' = env1 ∧ S' = S1 }) h fun env' S' ⟨e1, e2⟩ => by subst e1 e2; exact k
theorem sp_next (h : P.nx env S) : SP K n tNext env S P := fun B0 H0 as0 Bk B H as σ hl f c g D m => m.nx env S B H as σ f c g h
theorem sp_break (h : P.bk env S) : SP K n tBreak env S P := fun B0 H0 as0 Bk B H as σ hl f c g D m => m.bk env S B H as σ f c g h
theorem sp_cont (h : P.ct env S) : SP K n tCont env S P := fun B0 H0 as0 Bk B H as σ hl f c g D m => m.ct env S B H as σ f c g h
/-- x = e, and what follows -/
theorem sp_set (h : Ev K te env S x S1) (k : SP K n u (env.set i (some x)) S1 P) : SP K n (tSeq (tAsg te (gName i)) u) env S P := fun B0 H0 as0 Bk B H as σ hl f c g D m =>
  h B H as σ c g _ fun v B1 H1 c1 e1 r1 => k B0 H0 as0 Bk B1 H1 as _ hl (f.step e1) c1 ((g.mono e1.ex).set i r1) D m
theorem sp_set1 (h : Ev K te env S x S1) (k : P.nx (env.set i (some x)) S1) : SP K n (tAsg te (gName i)) env S P := fun B0 H0 as0 Bk B H as σ hl f c g D m =>
  h B H as σ c g _ fun v B1 H1 c1 e1 r1 => m.nx _ S1 B1 H1 as _ (f.step e1) c1 ((g.mono e1.ex).set i r1) k
/-- x = a new list, which will be changed -/
theorem sp_setC (h : EvN K te env S ds S1) (k : SP K n u (env.set i (some (.c S1.length))) (S1 ++ [.lst ds]) P) : SP K n (tSeq (tAsg te (gName i)) u) env S P := fun B0 H0 as0 Bk B H as σ hl f c g D m =>
  h B H as σ c g _ fun p B1 H1 vs c1 e1 hp hb h1 r1 => by
    have hpa := hp.1
    refine k B0 H0 as0 Bk B1 H1 (as ++ [p]) _ hl ((f.step e1).push (f.evo.oldN hp.2)) (c1.push hb hpa (.ofL h1 r1)) (((g.mono e1.ex).grow).set i ?_) D m
    exact ⟨p, by rw [← c1.len]; simp, rfl⟩
/-- return e -/
theorem sp_ret (h : Ev K te env S (.d d) S1) (k : P.rt d (S1.take n)) : SP K n (tRet te) env S P := fun B0 H0 as0 Bk B H as σ hl f c g D m =>
  h B H as σ c g _ fun v B1 H1 c1 e1 r1 => by
    have f1 := f.step e1
    have c2 := c1.upto as0.length
    rw [f1.base] at c2
    subst hl
    exact m.rt v d _ B1 H1 c2 f1.evo r1 k
/-- return xs, a list that was made here and changed -/
theorem sp_retC {j k : Nat} (h : env[j]? = some (some (.c k))) (hs : S[k]? = some (.lst ds)) (hk : n ≤ k) (q : P.rt (.lst ds) (S.take n)) : SP K n (tRet (tVar j)) env S P := fun B0 H0 as0 Bk B H as σ hl f c g D m => by
  obtain ⟨v, h1, a, ha, rfl⟩ := g.2 j _ h
  obtain ⟨hb, q0⟩ := c.cells k a _ ha hs
  obtain ⟨vs, hv, rv⟩ := q0.lst
  refine ⟨.ref a, h1, ?_⟩
  have c2 := c.upto as0.length
  rw [f.base] at c2
  subst hl
  have hd : a ∈ as.drop as0.length := by
    have hkl := (List.getElem?_eq_some_iff.mp ha).1
    refine List.mem_of_getElem? (i := k - as0.length) ?_
    rw [List.getElem?_drop]
    rw [show as0.length + (k - as0.length) = k by omega]
    exact ha
  have hn : a ∉ as0 := by
    intro hm
    have nd := c.nd
    rw [← List.take_append_drop as0.length as, f.base] at nd
    exact (List.nodup_append.mp nd).2.2 a hm a hd rfl
  have h0 := f.loc a hd
  exact m.rt (.ref a) (.lst ds) _ (upd B a (.lst vs)) H (c2.know hv hb hn) ⟨f.evo.ex.trans (Evl.Ex.new hb), f.evo.fr, fun b o hb' nt => by rw [upd_ne (by rintro rfl; exact h0.no hb' nt)]; exact f.evo.gr b o hb' nt, f.evo.tp, f.evo.pr⟩ (.lst upd_same (rv.mono (Evl.Ex.new hb))) q
theorem sp_retN (k : P.rt .non (S.take n)) : SP K n tRetN env S P := fun B0 H0 as0 Bk B H as σ hl f c g D m => by
  have c2 := c.upto as0.length
  rw [f.base] at c2
  subst hl
  exact m.rt .non .non _ B H c2 f.evo .non k
/-- e, and what follows -/
theorem sp_drop (h : Ev K te env S x S1) (k : SP K n u env S1 P) : SP K n (tSeq (tDrop te) u) env S P := fun B0 H0 as0 Bk B H as σ hl f c g D m =>
  h B H as σ c g _ fun v B1 H1 c1 e1 r1 => k B0 H0 as0 Bk B1 H1 as _ hl (f.step e1) c1 (g.mono e1.ex) D m
theorem sp_drop1 (h : Ev K te env S x S1) (k : P.nx env S1) : SP K n (tDrop te) env S P := fun B0 H0 as0 Bk B H as σ hl f c g D m =>
  h B H as σ c g _ fun v B1 H1 c1 e1 r1 => m.nx _ S1 B1 H1 as _ (f.step e1) c1 (g.mono e1.ex) k
theorem sp_if {b : Bool} (h : EvT K tt env S b S1) (h1 : b = true → SP K n t env S1 P) (h2 : b = false → SP K n u env S1 P) : SP K n (tIfS tt t u) env S P := fun B0 H0 as0 Bk B H as σ hl f c g D m =>
  h B H as σ c g _ fun B1 H1 c1 e1 => by
    cases b with
    | true => exact h1 rfl B0 H0 as0 Bk B1 H1 as _ hl (f.step e1) c1 (g.mono e1.ex) D m
    | false => exact h2 rfl B0 H0 as0 Bk B1 H1 as _ hl (f.step e1) c1 (g.mono e1.ex) D m
/-- an if, and what follows -/
theorem sp_ifq {v : TS} {b : Bool} (h : EvT K tt env S b S1) (h1 : b = true → SP K n (tSeq t v) env S1 P) (h2 : b = false → SP K n (tSeq u v) env S1 P) : SP K n (tSeq (tIfS tt t u) v) env S P := fun B0 H0 as0 Bk B H as σ hl f c g D m =>
  h B H as σ c g _ fun B1 H1 c1 e1 => by
    cases b with
    | true => exact h1 rfl B0 H0 as0 Bk B1 H1 as _ hl (f.step e1) c1 (g.mono e1.ex) D m
    | false => exact h2 rfl B0 H0 as0 Bk B1 H1 as _ hl (f.step e1) c1 (g.mono e1.ex) D m
theorem sp_nextq {v : TS} (h : SP K n v env S P) : SP K n (tSeq tNext v) env S P := fun B0 H0 as0 Bk B H as σ hl f c g D m => h B0 H0 as0 Bk B H as σ hl f c g D m
theorem sp_retq {v : TS} (h : SP K n (tRet te) env S P) : SP K n (tSeq (tRet te) v) env S P := fun B0 H0 as0 Bk B H as σ hl f c g D m =>
  h B0 H0 as0 Bk B H as σ hl f c g { D with nx := fun _ _ => True } ⟨fun _ _ _ _ _ _ _ _ _ _ => trivial, m.rt, m.bk, m.ct, m.ok⟩
theorem sp_assoc {v : TS} (h : SP K n (tSeq t (tSeq u v)) env S P) : SP K n (tSeq (tSeq t u) v) env S P := h

/-! ### a def's promise: G args S result S' -/
def SpD (K : PySem.W.Frag) (G : List Sl → List Dat → Dat → List Dat → Prop) : Sp := fun vs H Q _ => ∃ B as S ss r S', Ok K B H as S ∧ RepSs K B as vs ss ∧ G ss S r S' ∧
  ∀ v B' H', Ok K B' H' as S' → Evo B H as B' H' → Rep K B' v r → Q v H'
theorem sp_body {G : List Sl → List Dat → Dat → List Dat → Prop} {N : List Str} {vs : List V} {Q : VK} {E : XK} (h : SpD K G vs H Q E)
    (k : ∀ ss S r S', G ss S r S' → SP K S.length t (ss.map some ++ List.replicate (N.length - ss.length) none) S { rt := fun r' T => r' = r ∧ T = S', nx := fun _ T => r = .non ∧ T.take S.length = S' }) :
    t { nx := fun _ H' => Q .non H', rt := Q } (start N vs) H := by
  obtain ⟨B, as, S, ss, r, S', c, rs, g, q⟩ := h
  refine k ss S r S' g B H as B B H as _ c.len ⟨Evl.Ex.refl B, List.take_length, Evo.refl, fun a ha => ?_⟩ c (EnvR.start rs) _ ⟨fun env' T B' H' as' σ' f c' g' ⟨p1, p2⟩ => ?_, fun v r' T B' H' c' e' r1 ⟨p1, p2⟩ => ?_, fun _ _ _ _ _ _ _ _ _ p => p.elim, fun _ _ _ _ _ _ _ _ _ p => p.elim, trivial⟩
  · rw [List.drop_length] at ha; cases ha
  · subst p1
    have c2 := c'.upto as.length
    rw [f.base, c.len, p2] at c2
    exact q .non B' H' c2 f.evo .non
  · subst p1 p2
    exact q v B' H' c' e' r1
theorem spd_len {G : List Sl → List Dat → Dat → List Dat → Prop} {k : Nat} (h : ∀ ss S r S', G ss S r S' → ss.length = k) : ∀ vs H Q E, SpD K G vs H Q E → vs.length = k := fun vs H Q E q => by
  obtain ⟨B, as, S, ss, r, S', c, rs, g, _⟩ := q
  rw [rs.length]
  exact h ss S r S' g
theorem ev_call {G : List Sl → List Dat → Dat → List Dat → Prop} {ss : List Sl} {E : XK} (h : EvA K tA env S ss S1) (hg : G ss S1 d S2) : Ev K (tCall (SpD K G) [] E tA) env S (.d d) S2 := fun B H as σ c g Q q =>
  h B H as σ c g _ fun vs B1 H1 c1 e1 r1 => ⟨B1, as, S1, ss, d, S2, c1, by rw [List.append_nil]; exact r1, hg, fun v B2 H2 c2 e2 r2 => q v B2 H2 c2 (e1.trans e2) r2⟩
end
end RW

set_option Elab.async false
set_option linter.all false
set_option maxRecDepth 100000
set_option maxHeartbeats 4000000
namespace RW
open PySem PySem.Spec PyProof.Rows L2
open Evl (Ex)
section
variable {K : PySem.W.Frag} {n : Nat} {te ta tb tc to ti : TE} {tt tu : TT} {tA tR : TA} {env env' : Env1} {S S1 S2 S3 : List Dat} {x y z : Sl} {d e : Dat} {ds es : List Dat} {r r' : R2} {P P' : Post} {t u : TS}
  {B B0 B1 B' H H0 H1 H' : Hp} {as as0 as1 : List Addr} {D : Ends} {σ : L2.St} {i : Nat} {a b c : Bool}
/-! ### truth -/
theorem et_test (h : Ev K te env S (.d (.bl b)) S1) : EvT K (tTest te) env S b S1 := fun B H as σ c g Q q => h B H as σ c g _ fun v B1 H1 c1 e1 r1 => by
  cases r1; exact ⟨b, rfl, q B1 H1 c1 e1⟩
theorem et_B (h : Ev K te env S (.d (.bl b)) S1) : EvT K (tB te) env S b S1 := fun B H as σ c g Q q => h B H as σ c g _ fun v B1 H1 c1 e1 r1 => by
  cases r1; exact ⟨b, rfl, q B1 H1 c1 e1⟩
theorem et_yes : EvT K tYes env S true S := fun B H as σ c g Q q => q B H c Evo.refl
theorem et_and (h1 : EvT K tt env S a S1) (h2 : a = true → EvT K tu env S1 b S2) (h3 : a = false → S2 = S1 ∧ b = false) : EvT K (tAnd tt tu) env S b S2 := fun B H as σ c g Q q =>
  h1 B H as σ c g _ fun B1 H1 c1 e1 => by
    cases a with
    | true => exact h2 rfl B1 H1 as σ c1 (g.mono e1.ex) Q fun B2 H2 c2 e2 => q B2 H2 c2 (e1.trans e2)
    | false =>
      obtain ⟨e2, e3⟩ := h3 rfl
      subst e2 e3
      exact q B1 H1 c1 e1
theorem et_or (h1 : EvT K tt env S a S1) (h2 : a = false → EvT K tu env S1 b S2) (h3 : a = true → S2 = S1 ∧ b = true) : EvT K (tOr tt tu) env S b S2 := fun B H as σ c g Q q =>
  h1 B H as σ c g _ fun B1 H1 c1 e1 => by
    cases a with
    | false => exact h2 rfl B1 H1 as σ c1 (g.mono e1.ex) Q fun B2 H2 c2 e2 => q B2 H2 c2 (e1.trans e2)
    | true =>
      obtain ⟨e2, e3⟩ := h3 rfl
      subst e2 e3
      exact q B1 H1 c1 e1
/-- both without change -/
theorem et_andP (h1 : EvT K tt env S a S) (h2 : a = true → EvT K tu env S b S) : EvT K (tAnd tt tu) env S (a && b) S := by
  cases a with
  | true => exact et_and h1 (fun _ => by simpa using h2 rfl) (fun h => by cases h)
  | false => exact et_and h1 (fun h => by cases h) (fun _ => ⟨rfl, rfl⟩)
theorem et_orP (h1 : EvT K tt env S a S) (h2 : a = false → EvT K tu env S b S) : EvT K (tOr tt tu) env S (a || b) S := by
  cases a with
  | false => exact et_or h1 (fun _ => by simpa using h2 rfl) (fun h => by cases h)
  | true => exact et_or h1 (fun h => by cases h) (fun _ => ⟨rfl, rfl⟩)
theorem et_not (h1 : EvT K tt env S a S1) : EvT K (tNot tt) env S (!a) S1 := fun B H as σ c g Q q => h1 B H as σ c g _ fun B1 H1 c1 e1 => q B1 H1 c1 e1
theorem ev_andV (h1 : Ev K ta env S (.d (.bl a)) S) (h2 : a = true → Ev K tb env S (.d (.bl b)) S) : Ev K (tAndV ta tb) env S (.d (.bl (a && b))) S := fun B H as σ c g Q q =>
  h1 B H as σ c g _ fun v B1 H1 c1 e1 r1 => by
    cases r1
    refine ⟨a, rfl, ?_⟩
    cases a with
    | true => exact h2 rfl B1 H1 as σ c1 (g.mono e1.ex) Q fun v B2 H2 c2 e2 r2 => q v B2 H2 c2 (e1.trans e2) r2
    | false => exact q _ B1 H1 c1 e1 (.bl false)
theorem ev_orV (h1 : Ev K ta env S (.d (.bl a)) S) (h2 : a = false → Ev K tb env S (.d (.bl b)) S) : Ev K (tOrV ta tb) env S (.d (.bl (a || b))) S := fun B H as σ c g Q q =>
  h1 B H as σ c g _ fun v B1 H1 c1 e1 r1 => by
    cases r1
    refine ⟨a, rfl, ?_⟩
    cases a with
    | false => exact h2 rfl B1 H1 as σ c1 (g.mono e1.ex) Q fun v B2 H2 c2 e2 r2 => q v B2 H2 c2 (e1.trans e2) r2
    | true => exact q _ B1 H1 c1 e1 (.bl true)
theorem ev_notV (h1 : Ev K ta env S (.d (.bl a)) S1) : Ev K (tNotV ta) env S (.d (.bl (!a))) S1 := fun B H as σ c g Q q =>
  h1 B H as σ c g _ fun v B1 H1 c1 e1 r1 => by
    cases r1
    exact ⟨a, rfl, q _ B1 H1 c1 e1 (.bl _)⟩
theorem ev_if (h : EvT K tt env S b S1) (h1 : b = true → Ev K ta env S1 x S2) (h2 : b = false → Ev K tb env S1 x S2) : Ev K (tIf tt ta tb) env S x S2 := fun B H as σ c g Q q =>
  h B H as σ c g _ fun B1 H1 c1 e1 => by
    cases b with
    | true => exact h1 rfl B1 H1 as σ c1 (g.mono e1.ex) Q fun v B2 H2 c2 e2 r2 => q v B2 H2 c2 (e1.trans e2) r2
    | false => exact h2 rfl B1 H1 as σ c1 (g.mono e1.ex) Q fun v B2 H2 c2 e2 r2 => q v B2 H2 c2 (e1.trans e2) r2
/-- a op b op' c -/
theorem ev_chain (h1 : Ev K ta env S x S1) (h2 : Ev K tb env S1 y S2) (hr : Op2 K r x y S2 (.bl a)) (h3 : a = true → Ev K tc env S2 z S2) (hr' : a = true → Op2 K r' y z S2 (.bl b)) : Ev K (tChain r r' ta tb tc) env S (.d (.bl (a && b))) S2 := fun B H as σ c g Q q =>
  h1 B H as σ c g _ fun v B1 H1 c1 e1 r1 => h2 B1 H1 as σ c1 (g.mono e1.ex) _ fun w B2 H2 c2 e2 r2 => hr B2 H2 as v w c2 (r1.mono e2.ex) r2 _ fun u B3 H3 c3 e3 r3 => by
    cases r3
    refine ⟨a, rfl, ?_⟩
    have e03 := (e1.trans e2).trans e3
    cases a with
    | true => exact h3 rfl B3 H3 as σ c3 (g.mono e03.ex) _ fun w' B4 H4 c4 e4 r4 => hr' rfl B4 H4 as w w' c4 ((r2.mono e3.ex).mono e4.ex) r4 Q fun u B5 H5 c5 e5 r5 => q u B5 H5 c5 ((e03.trans e4).trans e5) r5
    | false => exact q _ B3 H3 c3 e03 (.bl false)
/-- truth of a list, a tuple (if xs:) -/
def tTru (K : PySem.W.Frag) (ta : TE) : TT := fun σ H Q => ta σ H fun x H' => ∃ k, TruV K x H' k ∧ Q k H'
theorem pt_tru {X : Cx} {e : Expr} {ta : TE} (ha : PE X e ta) (he : ∀ whole, isTrue e X.env whole = (do let v ← whole; standAt e.pos; holding [v] (truthy v)) := by intro _; rfl) : PT X e (tTru X.K ta) := pt_truth ha he
theorem isEmpty_reps {vs : List V} {ds : List Dat} (r : Reps K B vs ds) : vs.isEmpty = ds.isEmpty := by cases r <;> rfl
theorem et_seq (h : Ev K ta env S x S1) (hs : Seq S1 x ds) : EvT K (tTru K ta) env S (!ds.isEmpty) S1 := fun B H as σ c g Q q => h B H as σ c g _ fun v B1 H1 c1 e1 r1 => by
  obtain ⟨a, k, vs, rfl, hq, hr⟩ := hs.read c1 r1
  refine ⟨!ds.isEmpty, ?_, q B1 H1 c1 e1⟩
  rw [← isEmpty_reps hr]
  cases k with
  | true => exact .inl ⟨vs, hq, rfl⟩
  | false => exact .inr (.inl ⟨vs, hq, rfl⟩)
theorem et_bl (h : Ev K ta env S (.d (.bl b)) S1) : EvT K (tTru K ta) env S b S1 := fun B H as σ c g Q q => h B H as σ c g _ fun v B1 H1 c1 e1 r1 => by
  cases r1; exact ⟨b, rfl, q B1 H1 c1 e1⟩

/-! ### calls of built-ins by values -/
theorem ev_cb {r : List V → Hp → VK → Prop} {xs : List Sl} (h : EvA K tA env S xs S1) (hc : CallD K r xs S1 d S2) : Ev K (tCB r tA) env S (.d d) S2 := fun B H as σ c g Q q =>
  h B H as σ c g _ fun vs B1 H1 c1 e1 r1 => hc B1 H1 as vs c1 r1 Q fun u B2 H2 c2 e2 r2 => q u B2 H2 c2 (e1.trans e2) r2
def rLenD (K : PySem.W.Frag) : List V → Hp → VK → Prop := fun xs H Q => ∃ p ys, xs = [.ref p] ∧ (SqL K H p ys ∨ SqT K H p ys) ∧ Q (.int ys.length) H
theorem call_lenD {X : Cx} : CallR X (.builtin "len") (rLenD X.K) := call_len_seq
theorem cd_len (h : Seq S x ds) : CallD K (rLenD K) [x] S (.int ds.length) S := fun B H as vs c r Q q => by
  cases r with
  | cons r1 rr =>
    cases rr
    obtain ⟨a, k, ws, rfl, hq, hr⟩ := h.read c r1
    exact ⟨a, ws, rfl, sq_or hq, by rw [hr.length]; exact q _ B H c Evo.refl (.int _)⟩
theorem cd_lenS {ns : List Int} : CallD K (rLenD K) [.d (.scr ns)] S (.int ns.length) S := fun B H as vs c r Q q => by
  cases r with
  | cons r1 rr =>
    cases rr
    cases r1 with
    | scr h =>
      refine ⟨_, _, rfl, .inl (Evl.ex_l c.ex h), ?_⟩
      rw [List.length_map]
      exact q _ B H c Evo.refl (.int _)
theorem cd_sum {ns : List Int} (h : SeqL S x (ns.map Dat.int)) : CallD K (rSum K) [x] S (.int ns.sum) S := fun B H as vs c r Q q => by
  cases r with
  | cons r1 rr =>
    cases rr
    obtain ⟨a, ws, rfl, hq, hr⟩ := h.read c r1
    rw [hr.ints] at hq
    exact ⟨a, ns, rfl, Evl.sq_of hq, q _ B H c Evo.refl (.int _)⟩
theorem cd_all {bs : List Bool} (h : SeqL S x (bs.map Dat.bl)) : CallD K (rAll K) [x] S (.bl (bs.all id)) S := fun B H as vs c r Q q => by
  cases r with
  | cons r1 rr =>
    cases rr
    obtain ⟨a, ws, rfl, hq, hr⟩ := h.read c r1
    rw [hr.bls] at hq
    exact ⟨a, bs, rfl, Evl.sq_of hq, q _ B H c Evo.refl (.bl _)⟩
theorem cd_any {bs : List Bool} (h : SeqL S x (bs.map Dat.bl)) : CallD K (rAny K) [x] S (.bl (bs.any id)) S := fun B H as vs c r Q q => by
  cases r with
  | cons r1 rr =>
    cases rr
    obtain ⟨a, ws, rfl, hq, hr⟩ := h.read c r1
    rw [hr.bls] at hq
    exact ⟨a, bs, rfl, Evl.sq_of hq, q _ B H c Evo.refl (.bl _)⟩
def rTupD (K : PySem.W.Frag) : List V → Hp → VK → Prop := fun xs H Q => ∃ p ys, xs = [.ref p] ∧ ((SqL K H p ys ∧ ∀ l, H l = none → Q (.ref l) (upd H l (.tup ys))) ∨ (SqT K H p ys ∧ Q (.ref p) H))
theorem call_tupD {X : Cx} (hc : X.calm = true) : CallR X (.type "tuple") (rTupD X.K) := by first | exact call_tuple_of | exact call_tuple_of hc
theorem cd_tup (h : SeqL S x ds) : CallD K (rTupD K) [x] S (.tup ds) S := fun B H as vs c r Q q => by
  cases r with
  | cons r1 rr =>
    cases rr
    obtain ⟨a, ws, rfl, hq, hr⟩ := h.read c r1
    exact ⟨a, ws, rfl, .inl ⟨Evl.sq_of hq, fun l hl => q _ (upd B l (.tup ws)) _ (c.new hl) (Evo.new c hl) (.tup (Evl.st_of upd_same) (hr.mono (Evl.Ex.new (c.Bnone hl))))⟩⟩
def rLstD (K : PySem.W.Frag) : List V → Hp → VK → Prop := fun xs H Q => ∃ p ys, xs = [.ref p] ∧ (SqL K H p ys ∨ SqT K H p ys) ∧ ∀ l, H l = none → Q (.ref l) (upd H l (.lst ys))
theorem call_lstD {X : Cx} (hc : X.calm = true) : CallR X (.type "list") (rLstD X.K) := by first | exact call_list_of | exact call_list_of hc
theorem en_list (h : EvA K tA env S [x] S1) (hs : Seq S1 x ds) : EvN K (tCB (rLstD K) tA) env S ds S1 := fun B H as σ c g Q q =>
  h B H as σ c g _ fun vs B1 H1 c1 e1 r1 => by
    cases r1 with
    | cons r1 rr =>
      cases rr
      obtain ⟨a, k, ws, rfl, hq, hr⟩ := hs.read c1 r1
      exact ⟨a, ws, rfl, sq_or hq, fun l hl => evn_new c c1 e1 hl hr q⟩
def rMax2D : List V → Hp → VK → Prop := fun xs H Q => ∃ i j, xs = [.int i, .int j] ∧ Q (.int (if j > i then j else i)) H
theorem call_max2D {X : Cx} (hc : X.calm = true) : CallR X (.builtin "max") rMax2D := call_max2 hc
theorem cd_max2 {i j : Int} : CallD K rMax2D [.d (.int i), .d (.int j)] S (.int (max i j)) S := fun B H as vs c r Q q => by
  cases r with
  | cons r1 rr =>
    cases rr with
    | cons r2 rr =>
      cases rr; cases r1; cases r2
      refine ⟨i, j, rfl, ?_⟩
      have e : (if j > i then j else i) = max i j := by rw [Int.max_def]; split <;> split <;> omega
      rw [e]
      exact q _ B H c Evo.refl (.int _)
def rMin2D : List V → Hp → VK → Prop := fun xs H Q => ∃ i j, xs = [.int i, .int j] ∧ Q (.int (if j < i then j else i)) H
theorem call_min2D {X : Cx} (hc : X.calm = true) : CallR X (.builtin "min") rMin2D := call_min2 hc
theorem cd_min2 {i j : Int} : CallD K rMin2D [.d (.int i), .d (.int j)] S (.int (min i j)) S := fun B H as vs c r Q q => by
  cases r with
  | cons r1 rr =>
    cases rr with
    | cons r2 rr =>
      cases rr; cases r1; cases r2
      refine ⟨i, j, rfl, ?_⟩
      have e : (if j < i then j else i) = min i j := by rw [Int.min_def]; split <;> split <;> omega
      rw [e]
      exact q _ B H c Evo.refl (.int _)
def rAbsD : List V → Hp → VK → Prop := fun xs H Q => ∃ i, xs = [.int i] ∧ Q (.int (if i < 0 then -i else i)) H
theorem call_absD {X : Cx} : CallR X (.builtin "abs") rAbsD := call_abs
theorem cd_abs {i : Int} : CallD K rAbsD [.d (.int i)] S (.int (i.natAbs : Int)) S := fun B H as vs c r Q q => by
  cases r with
  | cons r1 rr =>
    cases rr; cases r1
    refine ⟨i, rfl, ?_⟩
    have e : (if i < 0 then -i else i) = (i.natAbs : Int) := by split <;> omega
    rw [e]
    exact q _ B H c Evo.refl (.int _)
def rIntD : List V → Hp → VK → Prop := fun xs H Q => (∃ i, xs = [.int i] ∧ Q (.int i) H) ∨ ∃ b, xs = [.bl b] ∧ Q (.int (b2i b)) H
theorem call_intD {X : Cx} : CallR X (.type "int") rIntD := call_int1
theorem cd_int {i : Int} : CallD K rIntD [.d (.int i)] S (.int i) S := fun B H as vs c r Q q => by
  cases r with
  | cons r1 rr =>
    cases rr; cases r1
    exact .inl ⟨i, rfl, q _ B H c Evo.refl (.int _)⟩
theorem cd_intB : CallD K rIntD [.d (.bl b)] S (.int (b2i b)) S := fun B H as vs c r Q q => by
  cases r with
  | cons r1 rr =>
    cases rr; cases r1
    exact .inr ⟨b, rfl, q _ B H c Evo.refl (.int _)⟩
end
end RW

set_option Elab.async false
set_option linter.all false
set_option maxRecDepth 100000
set_option maxHeartbeats 4000000
namespace RW
open PySem PySem.Spec PyProof.Rows L2
open Evl (Ex)
section
variable {K : PySem.W.Frag} {n : Nat} {te ta tb tc to ti : TE} {tt tu : TT} {tA tR : TA} {env env' : Env1} {S S1 S2 S3 : List Dat} {x y z : Sl} {d e : Dat} {ds es : List Dat} {r r' : R2} {P P' : Post} {t u : TS}
  {B B0 B1 B' H H0 H1 H' : Hp} {as as0 as1 : List Addr} {D : Ends} {σ : L2.St} {i : Nat} {a b c : Bool}
/-! ### + and slices -/
theorem reps_nil {vs : List V} : Reps K B vs [] → vs = [] := fun h => by cases h; rfl
theorem reps_ne {vs : List V} (r : Reps K B vs ds) : vs = [] ↔ ds = [] := by cases r <;> simp
theorem op2_catT (hl : ds.length + es.length ≤ sizeLine) : Op2 K (rCatA K) (.d (.tup ds)) (.d (.tup es)) S (.tup (ds ++ es)) := fun B H as v w c h1 h2 Q q => by
  cases h1 with
  | tup h1 r1 =>
    cases h2 with
    | tup h2 r2 =>
      rename_i a1 xs _ a2 ys _
      refine ⟨a1, a2, xs, ys, rfl, rfl, Evl.ex_t c.ex h1, Evl.ex_t c.ex h2, by rw [r1.length, r2.length]; exact hl, fun e => ?_, fun _ e => ?_, fun _ _ p hp => ?_⟩
      · have : ds = [] := (reps_ne r1).mp e
        subst this
        exact q _ B H c Evo.refl (.tup h2 r2)
      · have : es = [] := (reps_ne r2).mp e
        subst this
        rw [List.append_nil] at q
        exact q _ B H c Evo.refl (.tup h1 r1)
      · exact q _ (upd B p _) _ (c.new hp) (Evo.new c hp) (.tup (Evl.st_of upd_same) ((r1.append r2).mono (Evl.Ex.new (c.Bnone hp))))
/-- a binary operation that makes a new list -/
theorem en_cat {ds es : List Dat} (ha : Ev K ta env S x S1) (hb : Ev K tb env S1 y S2) (hx : SeqL S2 x ds) (hy : SeqL S2 y es) (hl : ds.length + es.length ≤ sizeLine) : EvN K (tOp rCat ta tb) env S (ds ++ es) S2 := fun B H as σ c g Q q =>
  ha B H as σ c g _ fun v B1 H1 c1 e1 r1 => hb B1 H1 as σ c1 (g.mono e1.ex) _ fun w B2 H2 c2 e2 r2 => by
    obtain ⟨a1, xs, rfl, h1, q1⟩ := hx.read c2 (r1.mono e2.ex)
    obtain ⟨a2, ys, rfl, h2, q2⟩ := hy.read c2 r2
    exact ⟨a1, a2, xs, ys, rfl, rfl, h1, h2, by rw [q1.length, q2.length]; exact hl, fun p hp => evn_new c c2 (e1.trans e2) hp (q1.append q2) q⟩
theorem reps_rep {vs : List V} (r : Reps K B vs ds) : ∀ k : Nat, Reps K B (List.replicate k vs).flatten (List.replicate k ds).flatten
  | 0 => .nil
  | k + 1 => by
    rw [List.replicate_succ, List.replicate_succ, List.flatten_cons, List.flatten_cons]
    exact r.append (reps_rep r k)
theorem en_rep {ds : List Dat} {k : Int} (ha : Ev K ta env S x S1) (hb : Ev K tb env S1 (.d (.int k)) S2) (hx : SeqL S2 x ds) (hk : -(2 ^ 63) ≤ k ∧ k < 2 ^ 63) (hl : ds.length * k.toNat ≤ sizeLine) : EvN K (tOp rRep ta tb) env S (List.replicate k.toNat ds).flatten S2 := fun B H as σ c g Q q =>
  ha B H as σ c g _ fun v B1 H1 c1 e1 r1 => hb B1 H1 as σ c1 (g.mono e1.ex) _ fun w B2 H2 c2 e2 r2 => by
    obtain ⟨a1, xs, rfl, h1, q1⟩ := hx.read c2 (r1.mono e2.ex)
    cases r2
    exact ⟨a1, k, xs, rfl, rfl, h1, hk.1, hk.2, by rw [q1.length]; exact hl, fun p hp => evn_new c c2 (e1.trans e2) hp (reps_rep q1 _) q⟩
def cutD (xs : List Dat) (lo hi : Option Int) : List Dat := (xs.drop (HT.sIx xs.length 0 lo)).take (HT.sIx xs.length xs.length hi - HT.sIx xs.length 0 lo)
theorem reps_cut {vs : List V} (r : Reps K B vs ds) (lo hi : Option Int) : Reps K B (cutV vs lo hi) (cutD ds lo hi) := by
  unfold cutV cutD
  rw [r.length]
  exact (r.drop _).take _
def EvO (K : PySem.W.Frag) (to : TO) (env : Env1) (S : List Dat) (o : Option Int) (S' : List Dat) : Prop :=
  ∀ B H as σ, Ok K B H as S → EnvR K B as σ env → ∀ Q : Option Int → Hp → Prop, (∀ B' H', Ok K B' H' as S' → Evo B H as B' H' → Q o H') → to σ H Q
theorem eo_none : EvO K tNoPart env S none S := fun B H as σ c g Q q => q B H c Evo.refl
theorem eo_some {k : Int} (h : Ev K te env S (.d (.int k)) S1) : EvO K (tPart te) env S (some k) S1 := fun B H as σ c g Q q => h B H as σ c g _ fun v B1 H1 c1 e1 r1 => by
  cases r1; exact ⟨k, rfl, q B1 H1 c1 e1⟩
theorem cutD_whole {lo hi : Option Int} (h : HT.sIx ds.length 0 lo = 0 ∧ HT.sIx ds.length ds.length hi = ds.length) : cutD ds lo hi = ds := by
  unfold cutD
  rw [h.1, h.2, List.drop_zero, Nat.sub_zero, List.take_length]
/-- t[lo:hi], a tuple -/
theorem ev_slT {tl th : TO} {lo hi : Option Int} (h : Ev K te env S (.d (.tup ds)) S1) (hl : EvO K tl env S1 lo S2) (hh : EvO K th env S2 hi S3) : Ev K (tSl (rSlA K) te tl th) env S (.d (.tup (cutD ds lo hi))) S3 := fun B H as σ c g Q q =>
  h B H as σ c g _ fun v B1 H1 c1 e1 r1 => hl B1 H1 as σ c1 (g.mono e1.ex) _ fun B2 H2 c2 e2 => hh B2 H2 as σ c2 (g.mono (e1.trans e2).ex) _ fun B3 H3 c3 e3 => by
    have r3 : Rep K B3 v (.tup ds) := Rep.mono (e2.trans e3).ex r1
    have e03 := (e1.trans e2).trans e3
    cases r3 with
    | tup h1 r1 =>
      refine ⟨_, _, rfl, Evl.ex_t c3.ex h1, fun hw => ?_, fun hw p hp => ?_⟩
      · rw [r1.length] at hw
        rw [cutD_whole hw] at q
        exact q _ B3 H3 c3 e03 (.tup h1 r1)
      · exact q _ (upd B3 p _) _ (c3.new hp) (e03.trans (Evo.new c3 hp)) (.tup (Evl.st_of upd_same) ((reps_cut r1 lo hi).mono (Evl.Ex.new (c3.Bnone hp))))
/-- xs[lo:hi], a list -/
theorem en_slL {tl th : TO} {lo hi : Option Int} (h : Ev K te env S x S1) (hl : EvO K tl env S1 lo S2) (hh : EvO K th env S2 hi S3) (hx : SeqL S3 x ds) : EvN K (tSl (rSlL K) te tl th) env S (cutD ds lo hi) S3 := fun B H as σ c g Q q =>
  h B H as σ c g _ fun v B1 H1 c1 e1 r1 => hl B1 H1 as σ c1 (g.mono e1.ex) _ fun B2 H2 c2 e2 => hh B2 H2 as σ c2 (g.mono (e1.trans e2).ex) _ fun B3 H3 c3 e3 => by
    obtain ⟨a1, xs, rfl, h1, q1⟩ := hx.read c3 (r1.mono (e2.trans e3).ex)
    exact ⟨a1, xs, rfl, Evl.sq_of h1, fun p hp => evn_new c c3 ((e1.trans e2).trans e3) hp (reps_cut q1 lo hi) q⟩

/-! ### what is walked -/
structure WalkD (K : PySem.W.Frag) (B : Hp) (J : It) (G : List Addr → List Dat → Prop) (ds : List Dat) : Prop where
  go : ∀ B2 H2 as2 S2 i, Ex B B2 → Ok K B2 H2 as2 S2 → G as2 S2 → i < ds.length → J.go i H2
  yld : ∀ B2 H2 as2 S2 i x H3, Ex B B2 → Ok K B2 H2 as2 S2 → G as2 S2 → i < ds.length → J.yld i H2 x H3 → ∃ B3 d, Ok K B3 H3 as2 S2 ∧ Evo B2 H2 as2 B3 H3 ∧ ds[i]? = some d ∧ Rep K B3 x d
  stop : ∀ B2 H2 as2 S2, Ex B B2 → Ok K B2 H2 as2 S2 → G as2 S2 → J.stop ds.length H2
def IterD (K : PySem.W.Frag) (wi : TI) (env : Env1) (S : List Dat) (G : List Addr → List Addr → List Dat → Prop) (ds : List Dat) (S1 : List Dat) : Prop :=
  ∀ B H as σ, Ok K B H as S → EnvR K B as σ env → ∀ R : It → Hp → Prop, (∀ J B1 H1, Ok K B1 H1 as S1 → Evo B H as B1 H1 → WalkD K B1 J (G as) ds → R J H1) → wi σ H R
/-- nothing is asked: what is walked is known -/
def G0 : List Addr → List Addr → List Dat → Prop := fun _ _ _ => True
/-- the k-th changed thing, left as it is while it is walked -/
def Gc (k : Nat) (ds : List Dat) : List Addr → List Addr → List Dat → Prop := fun as as2 S2 => as2[k]? = as[k]? ∧ S2[k]? = some (.lst ds)
theorem walk_known {a : Addr} {vs : List V} {k : Bool} (hq : Sq K k B a vs) (r : Reps K B vs ds) (G : List Addr → List Dat → Prop) : WalkD K B (ItS K k a) G ds where
  go := fun B2 H2 as2 S2 i e c _ hi => by
    obtain ⟨v, hv, _⟩ := r.get (List.getElem?_eq_getElem hi)
    cases k with
    | true => exact ⟨vs, v, Evl.ex_l c.ex (Evl.ex_l e hq), hv⟩
    | false => exact ⟨vs, v, Evl.ex_t c.ex (Evl.ex_t e hq), hv⟩
  yld := fun B2 H2 as2 S2 i x H3 e c _ hi y => by
    obtain ⟨v, hv, rv⟩ := r.get (List.getElem?_eq_getElem hi)
    cases k with
    | true =>
      obtain ⟨rfl, y⟩ := y
      have := y vs (Evl.ex_l c.ex (Evl.ex_l e hq))
      rw [hv] at this
      cases this
      exact ⟨B2, _, c, Evo.refl, List.getElem?_eq_getElem hi, rv.mono e⟩
    | false =>
      obtain ⟨rfl, y⟩ := y
      have := y vs (Evl.ex_t c.ex (Evl.ex_t e hq))
      rw [hv] at this
      cases this
      exact ⟨B2, _, c, Evo.refl, List.getElem?_eq_getElem hi, rv.mono e⟩
  stop := fun B2 H2 as2 S2 e c _ => by
    cases k with
    | true => exact ⟨vs, Evl.ex_l c.ex (Evl.ex_l e hq), by rw [r.length]; exact Nat.le_refl _⟩
    | false => exact ⟨vs, Evl.ex_t c.ex (Evl.ex_t e hq), by rw [r.length]; exact Nat.le_refl _⟩
theorem it_lst (h : Ev K te env S (.d (.lst ds)) S1) : IterD K (iSeq K te) env S G0 ds S1 := fun B H as σ c g R q => h B H as σ c g _ fun v B1 H1 c1 e1 r1 => by
  cases r1 with
  | lst h r => exact ⟨_, true, rfl, ⟨_, Evl.sq_of (c1.ex _ _ h)⟩, q _ B1 H1 c1 e1 (walk_known (k := true) (Evl.sq_of h) r _)⟩
theorem it_tup (h : Ev K te env S (.d (.tup ds)) S1) : IterD K (iSeq K te) env S G0 ds S1 := fun B H as σ c g R q => h B H as σ c g _ fun v B1 H1 c1 e1 r1 => by
  cases r1 with
  | tup h r => exact ⟨_, false, rfl, ⟨_, Evl.ex_t c1.ex h⟩, q _ B1 H1 c1 e1 (walk_known (k := false) h r _)⟩
theorem it_cell {k : Nat} (h : Ev K te env S (.c k) S1) (hk : S1[k]? = some (.lst ds)) : IterD K (iSeq K te) env S (Gc k ds) ds S1 := fun B H as σ c g R q => h B H as σ c g _ fun v B1 H1 c1 e1 r1 => by
  obtain ⟨a, ha, rfl⟩ := r1
  obtain ⟨_, q0⟩ := c1.cells k a _ ha hk
  obtain ⟨vs, hv, rv⟩ := q0.lst
  have rd : ∀ {B2 H2 as2 S2}, Ok K B2 H2 as2 S2 → Gc k ds as as2 S2 → ∃ ws, H2 a = some (.lst ws) ∧ Reps K B2 ws ds := fun {B2 H2 as2 S2} c2 g2 => by
    obtain ⟨g1, g2⟩ := g2
    obtain ⟨_, q0⟩ := c2.cells k a _ (g1.trans ha) g2
    obtain ⟨ws, hw, rw'⟩ := q0.lst
    exact ⟨ws, hw, rw'⟩
  refine ⟨a, true, rfl, ⟨vs, Evl.sq_of hv⟩, q _ B1 H1 c1 e1 ⟨fun B2 H2 as2 S2 i e c2 g2 hi => ?_, fun B2 H2 as2 S2 i x H3 e c2 g2 hi y => ?_, fun B2 H2 as2 S2 e c2 g2 => ?_⟩⟩
  · obtain ⟨ws, hw, rw'⟩ := rd c2 g2
    obtain ⟨v, hv, _⟩ := rw'.get (List.getElem?_eq_getElem hi)
    exact ⟨ws, v, Evl.sq_of hw, hv⟩
  · obtain ⟨ws, hw, rw'⟩ := rd c2 g2
    obtain ⟨v, hv, rv⟩ := rw'.get (List.getElem?_eq_getElem hi)
    obtain ⟨rfl, y⟩ := y
    have := y ws (Evl.sq_of hw)
    rw [hv] at this
    cases this
    exact ⟨B2, _, c2, Evo.refl, List.getElem?_eq_getElem hi, rv⟩
  · obtain ⟨ws, hw, rw'⟩ := rd c2 g2
    exact ⟨ws, Evl.sq_of hw, by rw [rw'.length]; exact Nat.le_refl _⟩
theorem it_script {ns : List Int} (h : Ev K te env S (.d (.scr ns)) S1) : IterD K (iSeq K te) env S G0 (ns.map Dat.int) S1 := fun B H as σ c g R q => h B H as σ c g _ fun v B1 H1 c1 e1 r1 => by
  cases r1 with
  | scr h =>
    have rr : ∀ ns : List Int, Reps K B1 (ns.map V.int) (ns.map Dat.int) := fun ns => by
      induction ns with
      | nil => exact .nil
      | cons n ns ih => exact .cons (.int n) ih
    exact ⟨_, true, rfl, ⟨_, Evl.ex_l c1.ex h⟩, q _ B1 H1 c1 e1 (walk_known (k := true) h (rr ns) _)⟩
/-- range(n), range(lo, hi) -/
def rng (lo : Int) (n : Nat) : List Dat := (List.range n).map fun i => Dat.int (lo + (i : Nat))
theorem rng_get {lo : Int} {n i : Nat} (h : i < n) : (rng lo n)[i]? = some (.int (lo + (i : Nat))) := by
  unfold rng
  rw [List.getElem?_map, List.getElem?_range h]
  rfl
theorem rng_len {lo : Int} {n : Nat} : (rng lo n).length = n := by unfold rng; rw [List.length_map, List.length_range]
theorem walk_rng {lo : Int} {n : Nat} {G : List Addr → List Dat → Prop} : WalkD K B (Itr lo n) G (rng lo n) where
  go := fun B2 H2 as2 S2 i _ _ _ hi => by rw [rng_len] at hi; exact hi
  yld := fun B2 H2 as2 S2 i x H3 _ c _ hi y => by
    rw [rng_len] at hi
    obtain ⟨rfl, rfl⟩ := y
    exact ⟨B2, _, c, Evo.refl, rng_get hi, .int _⟩
  stop := fun B2 H2 as2 S2 _ _ _ => by rw [rng_len]; exact Nat.le_refl _
theorem it_range1 {j : Int} (h : EvA K tA env S [.d (.int j)] S1) (hj : -(2 ^ 62) ≤ j ∧ j < 2 ^ 62) : IterD K (iRng1 tA) env S G0 (rng 0 j.toNat) S1 := fun B H as σ c g R q => h B H as σ c g _ fun vs B1 H1 c1 e1 r1 => by
  cases r1 with
  | cons r1 rr =>
    cases rr; cases r1
    exact ⟨j, rfl, hj.1, hj.2, q _ B1 H1 c1 e1 walk_rng⟩
theorem it_range2 {i j : Int} (h : EvA K tA env S [.d (.int i), .d (.int j)] S1) (hi : -(2 ^ 62) ≤ i ∧ i < 2 ^ 62) (hj : -(2 ^ 62) ≤ j ∧ j < 2 ^ 62) : IterD K (iRng2 tA) env S G0 (rng i (j - i).toNat) S1 := fun B H as σ c g R q => h B H as σ c g _ fun vs B1 H1 c1 e1 r1 => by
  cases r1 with
  | cons r1 rr =>
    cases rr with
    | cons r2 rr =>
      cases rr; cases r1; cases r2
      exact ⟨i, j, rfl, ⟨hi.1, hi.2, hj.1, hj.2⟩, q _ B1 H1 c1 e1 walk_rng⟩
/-- zip -/
def zipD (ds es : List Dat) : List Dat := List.zipWith (fun x y => Dat.tup [x, y]) ds es
theorem zipD_len : (zipD ds es).length = min ds.length es.length := by unfold zipD; rw [List.length_zipWith]
theorem zipD_get {i : Nat} {d e : Dat} (h1 : ds[i]? = some d) (h2 : es[i]? = some e) : (zipD ds es)[i]? = some (.tup [d, e]) := by
  unfold zipD
  rw [List.getElem?_zipWith, h1, h2]
/-- a sequence that stays: known data, or a changed thing that no one changes now -/
def GS (x : Sl) (ds : List Dat) : List Addr → List Addr → List Dat → Prop := match x with
  | .d _ => fun _ _ _ => True
  | .c k => fun as as2 S2 => as2[k]? = as[k]? ∧ LCell S2 k ds
theorem seq_stays {v : V} (c : Ok K B H as S) (hx : Seq S x ds) (r : RepS K B as v x) : ∃ a k, v = .ref a ∧ (∃ vs, Sq K k H a vs) ∧ ∀ B2 H2 as2 S2, Ex B B2 → Ok K B2 H2 as2 S2 → GS x ds as as2 S2 → ∃ ws, Sq K k H2 a ws ∧ Reps K B2 ws ds := by
  rcases hx with rfl | rfl | ⟨k, rfl, hk⟩
  · cases r with
    | lst h r => exact ⟨_, true, rfl, ⟨_, Evl.sq_of (c.ex _ _ h)⟩, fun B2 H2 as2 S2 e c2 _ => ⟨_, Evl.sq_of (c2.ex _ _ (e _ _ h)), r.mono e⟩⟩
  · cases r with
    | tup h r => exact ⟨_, false, rfl, ⟨_, Evl.ex_t c.ex h⟩, fun B2 H2 as2 S2 e c2 _ => ⟨_, Evl.ex_t c2.ex (Evl.ex_t e h), r.mono e⟩⟩
  · obtain ⟨a, ha, rfl⟩ := r
    obtain ⟨_, vs, hv, _⟩ := c.lcell ha hk
    refine ⟨a, true, rfl, ⟨vs, Evl.sq_of hv⟩, fun B2 H2 as2 S2 e c2 g2 => ?_⟩
    obtain ⟨g1, g2⟩ := g2
    obtain ⟨_, ws, hw, rw'⟩ := c2.lcell (g1.trans ha) g2
    exact ⟨ws, Evl.sq_of hw, rw'⟩
theorem sq_inj {k : Bool} {a : Addr} {xs ys : List V} (c : Ok K B H as S) (h1 : Sq K k H a xs) (h2 : Sq K k H a ys) (hk : ∀ o : Obj, K.lookup a = some o → False ∨ True) : True := trivial
theorem it_zip (h : EvA K tA env S [x, y] S1) (hx : Seq S1 x ds) (hy : Seq S1 y es) : IterD K (iZipG K tA) env S (fun as as2 S2 => GS x ds as as2 S2 ∧ GS y es as as2 S2) (zipD ds es) S1 := fun B H as σ c g R q => h B H as σ c g _ fun vs B1 H1 c1 e1 r1 => by
  cases r1 with
  | cons r1 rr =>
    cases rr with
    | cons r2 rr =>
      cases rr
      obtain ⟨a1, k1, rfl, ⟨w1, q1⟩, st1⟩ := seq_stays c1 hx r1
      obtain ⟨a2, k2, rfl, ⟨w2, q2⟩, st2⟩ := seq_stays c1 hy r2
      refine ⟨a1, a2, k1, k2, w1, w2, rfl, q1, q2, q _ B1 H1 c1 e1 ⟨fun B2 H2 as2 S2 i e c2 g2 hi => ?_, fun B2 H2 as2 S2 i x H3 e c2 g2 hi y => ?_, fun B2 H2 as2 S2 e c2 g2 => ?_⟩⟩
      · obtain ⟨u1, p1, rp1⟩ := st1 B2 H2 as2 S2 e c2 g2.1
        obtain ⟨u2, p2, rp2⟩ := st2 B2 H2 as2 S2 e c2 g2.2
        rw [zipD_len] at hi
        obtain ⟨v1, hv1, _⟩ := rp1.get (List.getElem?_eq_getElem (show i < ds.length by omega))
        obtain ⟨v2, hv2, _⟩ := rp2.get (List.getElem?_eq_getElem (show i < es.length by omega))
        exact ⟨u1, u2, v1, v2, p1, p2, hv1, hv2⟩
      · obtain ⟨u1, p1, rp1⟩ := st1 B2 H2 as2 S2 e c2 g2.1
        obtain ⟨u2, p2, rp2⟩ := st2 B2 H2 as2 S2 e c2 g2.2
        obtain ⟨T, v1, v2, rfl, hT, rfl, y1, y2⟩ := y
        obtain ⟨d1, hd1, r1⟩ := rp1.get' (y1 u1 p1)
        obtain ⟨d2, hd2, r2⟩ := rp2.get' (y2 u2 p2)
        have hB : Ex B2 (upd B2 T (.tup [v1, v2])) := Evl.Ex.new (c2.Bnone hT)
        exact ⟨upd B2 T (.tup [v1, v2]), .tup [d1, d2], c2.new hT, Evo.new c2 hT, zipD_get hd1 hd2, .tup (Evl.st_of upd_same) (.cons (r1.mono hB) (.cons (r2.mono hB) .nil))⟩
      · obtain ⟨u1, p1, rp1⟩ := st1 B2 H2 as2 S2 e c2 g2.1
        obtain ⟨u2, p2, rp2⟩ := st2 B2 H2 as2 S2 e c2 g2.2
        refine ⟨u1, u2, p1, p2, ?_, ?_, ?_⟩ <;> rw [zipD_len] <;> have := rp1.length <;> have := rp2.length <;> omega

/-! ### targets -/
def TgD (K : PySem.W.Frag) (g : TG) (d : Dat) (is : List Nat) (f : Env1 → Env1) : Prop :=
  ∀ B H as S σ env v, Ok K B H as S → EnvR K B as σ env → Rep K B v d → ∀ Q : L2.St → Hp → Prop, (∀ σ', EnvR K B as σ' (f env) → (∀ vs : List Nat, (∀ i ∈ is, i ∈ vs) → L2.wipe σ' vs = L2.wipe σ vs) → Q σ' H) → g v σ H Q
theorem set_comm_none {σ : L2.St} {i j : Nat} {x : Option V} (h : i ≠ j) : (σ.set i x).set j none = (σ.set j none).set i x := (List.set_comm _ _ h)
theorem wipe_set {σ : L2.St} {i : Nat} {x : Option V} : ∀ {vs : List Nat}, i ∈ vs → L2.wipe (σ.set i x) vs = L2.wipe σ vs
  | [], h => by cases h
  | v :: vs, h => by
    unfold L2.wipe
    by_cases hi : i ∈ vs
    · rw [wipe_set hi]
    · have hv : i = v := by
        rcases List.mem_cons.mp h with h | h
        · exact h
        · exact absurd h hi
      subst hv
      have key : ∀ ws : List Nat, i ∉ ws → L2.wipe (σ.set i x) ws = (L2.wipe σ ws).set i x := by
        intro ws
        induction ws with
        | nil => intro _; rfl
        | cons w ws ih =>
          intro hn
          unfold L2.wipe
          rw [ih (fun z => hn (List.mem_cons_of_mem _ z))]
          exact List.set_comm _ _ (fun z => hn (by rw [z]; exact List.mem_cons_self))
      rw [key vs hi, List.set_set]
theorem tg_name {j : Nat} : TgD K (gName j) d [j] (fun env => env.set j (some (.d d))) := fun B H as S σ env v c g r Q q =>
  q _ (EnvR.set (s := .d d) j g r) fun vs h => wipe_set (h j (by simp))
theorem tg_pair {j k : Nat} : TgD K (gTup K 2 (gCons (gName j) (gCons (gName k) gNil))) (.tup [d, e]) [j, k] (fun env => (env.set j (some (.d d))).set k (some (.d e))) := fun B H as S σ env v c g r Q q => by
  cases r with
  | tup h r =>
    cases r with
    | cons r1 r =>
      cases r with
      | cons r2 r =>
        cases r
        refine ⟨_, _, rfl, Evl.ex_t c.ex h, rfl, _, _, rfl, _, _, rfl, rfl, q _ (EnvR.set (s := .d e) k (EnvR.set (s := .d d) j g r1) r2) fun vs hv => ?_⟩
        rw [wipe_set (hv k (by simp)), wipe_set (hv j (by simp))]
theorem tg_three {j k l : Nat} {f : Dat} : TgD K (gTup K 3 (gCons (gName j) (gCons (gName k) (gCons (gName l) gNil)))) (.tup [d, e, f]) [j, k, l] (fun env => ((env.set j (some (.d d))).set k (some (.d e))).set l (some (.d f))) := fun B H as S σ env v c g r Q q => by
  cases r with
  | tup h r =>
    cases r with
    | cons r1 r =>
      cases r with
      | cons r2 r =>
        cases r with
        | cons r3 r =>
          cases r
          refine ⟨_, _, rfl, Evl.ex_t c.ex h, rfl, _, _, rfl, _, _, rfl, _, _, rfl, rfl, q _ (EnvR.set (s := .d f) l (EnvR.set (s := .d e) k (EnvR.set (s := .d d) j g r1) r2) r3) fun vs hv => ?_⟩
          rw [wipe_set (hv l (by simp)), wipe_set (hv k (by simp)), wipe_set (hv j (by simp))]
/-- (a, b) = e -/
theorem sp_asg {g : TG} {is : List Nat} {f : Env1 → Env1} (h : Ev K te env S (.d d) S1) (hg : TgD K g d is f) (k : SP K n u (f env) S1 P) : SP K n (tSeq (tAsg te g) u) env S P := fun B0 H0 as0 Bk B H as σ hl f0 c g0 D m =>
  h B H as σ c g0 _ fun v B1 H1 c1 e1 r1 => hg B1 H1 as S1 σ env v c1 (g0.mono e1.ex) r1 _ fun σ' g' _ => k B0 H0 as0 Bk B1 H1 as σ' hl (f0.step e1) c1 g' D m

/-! ### for -/
/-- env may know less -/
theorem sp_for {wi : TI} {g : TG} {tb : TS} {G : List Addr → List Addr → List Dat → Prop} (hw : IterD K wi env S G ds S1) (Inv : Nat → Env1 → List Dat → Prop) (h0 : Inv 0 env S1)
    (hG : ∀ i env' S' as as2, Inv i env' S' → as.length = S1.length → as2.length = S'.length → as2.take n = as.take n → G as as2 S')
    (hs : ∀ i d env' S', ds[i]? = some d → Inv i env' S' → ∃ is f, TgD K g d is f ∧ SP K n tb (f env') S' { P with nx := Inv (i + 1), ct := Inv (i + 1), bk := P.nx })
    (hd : ∀ env' S', Inv ds.length env' S' → P.nx env' S') : SP K n (tFor wi g tb) env S P := fun B0 H0 as0 Bk B H as σ hl f0 c g0 D m =>
  hw B H as σ c g0 _ fun J B1 H1 c1 e1 w => by
    subst hl
    have f1 := f0.step e1
    refine ⟨fun i mm σ' H' => mm = ds.length - i ∧ i ≤ ds.length ∧ ∃ env' S' B' as', Fr B0 H0 as0 B1 B' H' as' ∧ Ok K B' H' as' S' ∧ EnvR K B' as' σ' env' ∧ Inv i env' S', ⟨_, rfl, Nat.zero_le _, env, S1, B1, as, ⟨Evl.Ex.refl _, f1.base, f1.evo, f1.loc⟩, c1, g0.mono e1.ex, h0⟩, ?_⟩
    rintro i mm σ' H' ⟨rfl, hi, env', S', B', as', f', c', g', hinv⟩
    have ex' := f'.kn
    have hg := hG i env' S' as as' hinv c1.len c'.len (by rw [f'.base, f1.base])
    by_cases hlt : i < ds.length
    · refine .inr ⟨w.go B' H' as' S' i ex' c' hg hlt, fun σ2 H2 => ∃ env2 S2 B2 as2, Fr B0 H0 as0 B1 B2 H2 as2 ∧ Ok K B2 H2 as2 S2 ∧ EnvR K B2 as2 σ2 env2 ∧ Inv (i + 1) env2 S2, fun σ2 H2 hN => ⟨ds.length - (i + 1), by omega, rfl, hlt, hN⟩, fun x H2 hy => ?_⟩
      obtain ⟨B2, d, c2, e2, hd2, r2⟩ := w.yld B' H' as' S' i x H2 ex' c' hg hlt hy
      obtain ⟨is, f, tg, hbody⟩ := hs i d env' S' hd2 hinv
      refine tg B2 H2 as' S' σ' env' x c2 (g'.mono e2.ex) r2 _ fun σ3 g3 _ => ?_
      have f2 := f'.step e2
      refine hbody B0 H0 as0 B1 B2 H2 as' σ3 rfl f2 c2 g3 _ ⟨?_, m.rt, ?_, ?_, m.ok⟩
      · exact fun env4 S4 B4 H4 as4 σ4 f4 c4 g4 p4 => ⟨env4, S4, B4, as4, f4, c4, g4, p4⟩
      · exact fun env4 S4 B4 H4 as4 σ4 f4 c4 g4 p4 => m.nx env4 S4 B4 H4 as4 σ4 ⟨f1.kn.trans f4.kn, f4.base, f4.evo, f4.loc⟩ c4 g4 p4
      · exact fun env4 S4 B4 H4 as4 σ4 f4 c4 g4 p4 => ⟨env4, S4, B4, as4, f4, c4, g4, p4⟩
    · have e : i = ds.length := by omega
      subst e
      exact .inl ⟨w.stop B' H' as' S' ex' c' hg, m.nx env' S' B' H' as' σ' ⟨f1.kn.trans f'.kn, f'.base, f'.evo, f'.loc⟩ c' g' (hd env' S' hinv)⟩
end
end RW

set_option Elab.async false
set_option linter.all false
set_option maxRecDepth 100000
set_option maxHeartbeats 4000000
namespace RW
open PySem PySem.Spec PyProof.Rows L2
open Evl (Ex)
section
variable {K : PySem.W.Frag} {n : Nat} {te ta tb tc to ti : TE} {tt tu : TT} {tA tR : TA} {env env' : Env1} {S S1 S2 S3 : List Dat} {x y z : Sl} {d e : Dat} {ds es : List Dat} {r r' : R2} {P P' : Post} {t u : TS}
  {B B0 B1 B' H H0 H1 H' : Hp} {as as0 as1 : List Addr} {D : Ends} {σ : L2.St} {i : Nat} {a b c : Bool}
/-- a list that nothing knows, and what it holds -/
structure Acc (K : PySem.W.Frag) (p : Addr) (B H : Hp) (as : List Addr) (acc : List Dat) : Prop where
  nb : B p = none
  na : p ∉ as
  at_ : ∃ vs, H p = some (.lst vs) ∧ Reps K B vs acc
theorem Acc.step {p : Addr} {acc : List Dat} (h : Acc K p B H as acc) (e : Evo B H as B1 H1) : Acc K p B1 H1 as acc := by
  obtain ⟨vs, h1, h2⟩ := h.at_
  have h3 := e.fr p _ h.na h1 (fun _ z => nomatch z)
  refine ⟨?_, h.na, vs, h3, h2.mono e.ex⟩
  rcases e.gr p _ h1 (fun _ z => nomatch z) with z | ⟨o, fo, z⟩
  · exact z.trans h.nb
  · rw [h3] at z; cases z; exact fo.lst.elim
/-- a list that nothing knows may change -/
theorem Ok.other {p : Addr} {o : HO} (c : Ok K B H as S) (hb : B p = none) (ha : p ∉ as) : Ok K B (upd H p o) as S where
  ex := fun a u q => by
    rw [upd_ne (by rintro rfl; rw [hb] at q; cases q)]
    exact c.ex a u q
  len := c.len
  cells := fun k a s h1 h2 => by
    obtain ⟨q1, q2⟩ := c.cells k a s h1 h2
    have ne : a ≠ p := by rintro rfl; exact ha (List.mem_of_getElem? h1)
    refine ⟨q1, ?_⟩
    obtain ⟨o, q3, q4⟩ := q2
    exact ⟨o, by rw [upd_ne ne]; exact q3, q4⟩
  nd := c.nd
  ntb := c.ntb
  tb := c.tb
  lk := fun k a s o h1 h2 h3 => by
    have ne : a ≠ p := by rintro rfl; exact ha (List.mem_of_getElem? h1)
    rw [upd_ne ne] at h3
    exact c.lk k a s o h1 h2 h3
theorem Evo.other {p : Addr} {o : HO} (e : Evo B H as B1 H1) (hp : Nn H p) (hn : ∀ ps, o ≠ .tbl ps := by exact fun _ z => nomatch z) : Evo B H as B1 (upd H1 p o) :=
  ⟨e.ex, fun a u n q nt => by rw [upd_ne (by rintro rfl; exact hp.no q nt)]; exact e.fr a u n q nt, fun a u q nt => by rw [upd_ne (by rintro rfl; exact hp.no q nt)]; exact e.gr a u q nt, fun a u fo q => by
    rw [upd_ne (by rintro rfl; obtain ⟨ps, rfl⟩ := hp u q; exact fo.tbl)]; exact e.tp a u fo q, fun a u q nt => by rw [upd_ne (by rintro rfl; exact hp.no q nt)]; exact e.pr a u q nt⟩
theorem Acc.snoc {p : Addr} {acc : List Dat} {v : V} (h : Acc K p B H as acc) (r : Rep K B v d) : ∃ vs, H p = some (.lst vs) ∧ vs.length = acc.length ∧ Acc K p B (upd H p (.lst (vs ++ [v]))) as (acc ++ [d]) := by
  obtain ⟨vs, h1, h2⟩ := h.at_
  exact ⟨vs, h1, h2.length, h.nb, h.na, _, upd_same, h2.append (.cons r .nil)⟩
/-- [e for target in iter if test] -/
theorem en_lc {wi : TI} {g : TG} {vs : List Nat} {G : List Addr → List Addr → List Dat → Prop} (hw : IterD K wi env S G ds S1) (hz : ds.length ≤ sizeLine) (Inv : Nat → List Dat → List Dat → Prop) (h0 : Inv 0 [] S1)
    (hG : ∀ i acc S', Inv i acc S' → ∀ as : List Addr, as.length = S1.length → as.length = S'.length → G as as S')
    (hs : ∀ i d acc S', ds[i]? = some d → Inv i acc S' → ∃ is f b S2, TgD K g d is f ∧ (∀ i ∈ is, i ∈ vs) ∧ EvT K tt (f (wipeE env vs)) S' b S2 ∧
      (b = true → ∃ r S3, Ev K te (f (wipeE env vs)) S2 (.d r) S3 ∧ Inv (i + 1) (acc ++ [r]) S3) ∧ (b = false → Inv (i + 1) acc S2))
    {S' : List Dat} (hd : ∀ acc S2, Inv ds.length acc S2 → acc = es ∧ S2 = S') : EvN K (tLc wi g tt te vs) env S es S' := fun B H as σ c g0 Q q =>
  hw B H as σ c g0 _ fun J B1 H1 c1 e1 w Dl hDl => by
    have hD0 : Nn H Dl := e1.old hDl
    have c1' : Ok K B1 (upd H1 Dl (.lst [])) as S1 := c1.other (c1.Bnone hDl) (c1.fresh hDl)
    have e1' : Evo B H as B1 (upd H1 Dl (.lst [])) := e1.other hD0
    refine ⟨fun i mm H' => mm = ds.length - i ∧ i ≤ ds.length ∧ ∃ S' B' acc, Ok K B' H' as S' ∧ Evo B H as B' H' ∧ Ex B1 B' ∧ Acc K Dl B' H' as acc ∧ acc.length ≤ i ∧ Inv i acc S', ⟨_, rfl, Nat.zero_le _, S1, B1, [], c1', e1', Evl.Ex.refl _, ⟨c1.Bnone hDl, c1.fresh hDl, [], upd_same, .nil⟩, Nat.zero_le _, h0⟩, ?_⟩
    rintro i mm H' ⟨rfl, hi, S', B', acc, c', e', ex', hacc, hal, hinv⟩
    have hg := hG i acc S' hinv as c1.len c'.len
    by_cases hlt : i < ds.length
    · refine .inr ⟨w.go B' H' as S' i ex' c' hg hlt, fun H2 => ∃ S2 B2 acc2, Ok K B2 H2 as S2 ∧ Evo B H as B2 H2 ∧ Ex B1 B2 ∧ Acc K Dl B2 H2 as acc2 ∧ acc2.length ≤ i + 1 ∧ Inv (i + 1) acc2 S2, fun H2 hN => ⟨ds.length - (i + 1), by omega, rfl, hlt, hN⟩, fun x H2 hy => ?_⟩
      obtain ⟨B2, d, c2, e2, hd2, r2⟩ := w.yld B' H' as S' i x H2 ex' c' hg hlt hy
      obtain ⟨is, f, b, S2, tg, his, htt, ht, hf⟩ := hs i d acc S' hd2 hinv
      have gw : EnvR K B2 as (L2.wipe σ vs) (wipeE env vs) := ((g0.mono e1.ex).wipe vs).mono (ex'.trans e2.ex)
      refine tg B2 H2 as S' _ _ x c2 gw r2 _ fun σ3 g3 hw3 => ⟨?_, ?_⟩
      · rw [hw3 vs his]
        have : ∀ ws : List Nat, (∀ j ∈ ws, j ∈ vs) → L2.wipe (L2.wipe σ vs) ws = L2.wipe σ vs := by
          intro ws
          induction ws with
          | nil => intro _; rfl
          | cons j ws ih =>
            intro h
            show (L2.wipe (L2.wipe σ vs) ws).set j none = L2.wipe σ vs
            have e0 : L2.wipe (L2.wipe σ vs) ws = L2.wipe σ vs := ih fun k hk => h k (List.mem_cons_of_mem _ hk)
            rw [e0]
            have hj := h j List.mem_cons_self
            have key : ∀ (us : List Nat), j ∈ us → (L2.wipe σ us).set j none = L2.wipe σ us := by
              intro us
              induction us with
              | nil => intro h; cases h
              | cons k us ih =>
                intro hk
                unfold L2.wipe
                by_cases hj : j = k
                · subst hj; rw [List.set_set]
                · rw [List.set_comm _ _ (fun z => hj z.symm)]
                  rw [ih ((List.mem_cons.mp hk).resolve_left hj)]
            exact key vs hj
        exact this vs fun _ h => h
      · refine htt B2 H2 as σ3 c2 g3 _ fun B3 H3 c3 e3 => ?_
        have ac3 := (hacc.step e2).step e3
        have e03 := (e'.trans e2).trans e3
        have ex3 := (ex'.trans e2.ex).trans e3.ex
        cases b with
        | false => exact ⟨S2, B3, acc, c3, e03, ex3, ac3, by omega, hf rfl⟩
        | true =>
          obtain ⟨r, S3, hev, hinv'⟩ := ht rfl
          show te σ3 H3 _
          refine hev B3 H3 as σ3 c3 (g3.mono e3.ex) _ fun v B4 H4 c4 e4 r4 => ?_
          have ac4 := ac3.step e4
          obtain ⟨ws, hw4, hl4, ac5⟩ := ac4.snoc r4
          refine ⟨ws, hw4, by rw [hl4]; omega, S3, B4, acc ++ [r], c4.other ac4.nb ac4.na, (e03.trans e4).other hD0, ex3.trans e4.ex, ac5, by rw [List.length_append]; simp; omega, hinv'⟩
    · have e : i = ds.length := by omega
      subst e
      obtain ⟨e1, e2⟩ := hd acc S' hinv
      subst e1 e2
      obtain ⟨ws, hw4, hr4⟩ := hacc.at_
      exact .inl ⟨w.stop B' H' as S' ex' c' hg, q Dl B' H' ws c' e' ⟨hacc.na, hD0⟩ hacc.nb hw4 hr4⟩
/-- without a test, each element by itself -/
theorem en_map {wi : TI} {g : TG} {vs : List Nat} {G : List Addr → List Addr → List Dat → Prop} {is : List Nat} (hw : IterD K wi env S G ds S1) (hz : ds.length ≤ sizeLine)
    (hG : ∀ as : List Addr, as.length = S1.length → G as as S1) (his : ∀ i ∈ is, i ∈ vs) (f : Dat → Env1 → Env1) (F : Dat → Dat)
    (hs : ∀ (i : Nat) (d : Dat), ds[i]? = some d → TgD K g d is (f d) ∧ Ev K te (f d (wipeE env vs)) S1 (.d (F d)) S1) : EvN K (tLc wi g tYes te vs) env S (ds.map F) S1 := by
  refine en_lc (es := ds.map F) (S' := S1) hw hz (fun i acc S' => acc = (ds.take i).map F ∧ S' = S1) ⟨by simp, rfl⟩ (fun i acc S' h as l1 l2 => by rw [h.2]; exact hG as l1) (fun i d acc S' hd h => ?_) (fun acc S2 h => ?_)
  · obtain ⟨rfl, rfl⟩ := h
    obtain ⟨tg, hev⟩ := hs i d hd
    refine ⟨is, f d, true, S', tg, his, et_yes, fun _ => ⟨_, _, hev, ?_, rfl⟩, fun h => by cases h⟩
    have hl := (List.getElem?_eq_some_iff.mp hd).1
    have e : ds[i] = d := (List.getElem?_eq_some_iff.mp hd).2
    rw [List.take_succ_eq_append_getElem hl, e, List.map_append]
    rfl
  · obtain ⟨rfl, rfl⟩ := h
    exact ⟨by rw [List.take_length], rfl⟩
/-- with a test -/
theorem en_filter {wi : TI} {g : TG} {vs : List Nat} {G : List Addr → List Addr → List Dat → Prop} {is : List Nat} (hw : IterD K wi env S G ds S1) (hz : ds.length ≤ sizeLine)
    (hG : ∀ as : List Addr, as.length = S1.length → G as as S1) (his : ∀ i ∈ is, i ∈ vs) (f : Dat → Env1 → Env1) (F : Dat → Dat) (T : Dat → Bool)
    (hs : ∀ (i : Nat) (d : Dat), ds[i]? = some d → TgD K g d is (f d) ∧ EvT K tt (f d (wipeE env vs)) S1 (T d) S1 ∧ (T d = true → Ev K te (f d (wipeE env vs)) S1 (.d (F d)) S1)) : EvN K (tLc wi g tt te vs) env S ((ds.filter T).map F) S1 := by
  refine en_lc (es := (ds.filter T).map F) (S' := S1) hw hz (fun i acc S' => acc = ((ds.take i).filter T).map F ∧ S' = S1) ⟨by simp, rfl⟩ (fun i acc S' h as l1 l2 => by rw [h.2]; exact hG as l1) (fun i d acc S' hd h => ?_) (fun acc S2 h => ?_)
  · obtain ⟨rfl, rfl⟩ := h
    obtain ⟨tg, htt, hev⟩ := hs i d hd
    have hl := (List.getElem?_eq_some_iff.mp hd).1
    have e : ds[i] = d := (List.getElem?_eq_some_iff.mp hd).2
    refine ⟨is, f d, T d, S', tg, his, htt, fun h => ⟨_, _, hev h, ?_, rfl⟩, fun h => ⟨?_, rfl⟩⟩
    · rw [List.take_succ_eq_append_getElem hl, e, List.filter_append, List.map_append]
      simp [h]
    · rw [List.take_succ_eq_append_getElem hl, e, List.filter_append, List.map_append]
      simp [h]
  · obtain ⟨rfl, rfl⟩ := h
    exact ⟨by rw [List.take_length], rfl⟩
end
end RW

set_option Elab.async false
set_option linter.all false
set_option maxRecDepth 100000
set_option maxHeartbeats 4000000
namespace RW
open PySem PySem.Spec PyProof.Rows L2
open Evl (Ex)
section
variable {K : PySem.W.Frag} {n : Nat} {te ta tb tc to ti : TE} {tt tu : TT} {tA tR : TA} {env env' : Env1} {S S1 S2 S3 : List Dat} {x y z : Sl} {d e : Dat} {ds es : List Dat} {r r' : R2} {P P' : Post} {t u : TS}
  {B B0 B1 B' H H0 H1 H' : Hp} {as as0 as1 : List Addr} {D : Ends} {σ : L2.St} {i : Nat} {a b c : Bool}
theorem wipe_none {j : Nat} : ∀ {us : List Nat}, j ∈ us → (L2.wipe σ us).set j none = L2.wipe σ us
  | [], h => by cases h
  | k :: us, hk => by
    show ((L2.wipe σ us).set k none).set j none = (L2.wipe σ us).set k none
    by_cases hj : j = k
    · subst hj; rw [List.set_set]
    · rw [List.set_comm _ _ (fun z => hj z.symm), wipe_none ((List.mem_cons.mp hk).resolve_left hj)]
theorem wipe_wipe {vs : List Nat} : ∀ {ws : List Nat}, (∀ j ∈ ws, j ∈ vs) → L2.wipe (L2.wipe σ vs) ws = L2.wipe σ vs
  | [], _ => rfl
  | j :: ws, h => by
    show (L2.wipe (L2.wipe σ vs) ws).set j none = L2.wipe σ vs
    rw [wipe_wipe fun k hk => h k (List.mem_cons_of_mem _ hk), wipe_none (h j List.mem_cons_self)]
theorem flat_take {α β : Type} (f : α → List β) {l : List α} {i : Nat} {x : α} (h : l[i]? = some x) : (l.take (i + 1)).flatMap f = (l.take i).flatMap f ++ f x := by
  obtain ⟨hl, e⟩ := List.getElem?_eq_some_iff.mp h
  rw [List.take_succ_eq_append_getElem hl, e, List.flatMap_append]
  simp
theorem flat_le {α β : Type} (f : α → List β) {l : List α} {i : Nat} {x : α} (h : l[i]? = some x) : ((l.take i).flatMap f).length + (f x).length ≤ (l.flatMap f).length := by
  have h1 : (l.take (i + 1)).flatMap f ++ (l.drop (i + 1)).flatMap f = l.flatMap f := by
    rw [← List.flatMap_append, List.take_append_drop]
  rw [← h1, flat_take f h, List.length_append, List.length_append]
  omega
theorem map_take {α β : Type} (f : α → β) {l : List α} {i : Nat} {x : α} (h : l[i]? = some x) : (l.take (i + 1)).map f = (l.take i).map f ++ [f x] := by
  obtain ⟨hl, e⟩ := List.getElem?_eq_some_iff.mp h
  rw [List.take_succ_eq_append_getElem hl, e, List.map_append]
  rfl
/-- [e for x in xs for y in ..] -/
theorem en_flat {wi wi1 : TI} {g g1 : TG} {vs vs1 : List Nat} {G G1 : List Addr → List Addr → List Dat → Prop} {is is1 : List Nat} (hw : IterD K wi env S G ds S1) (inn : Dat → List Dat) (F : Dat → Dat → Dat)
    (hz : (ds.flatMap fun d => (inn d).map (F d)).length ≤ sizeLine) (hG : ∀ as : List Addr, as.length = S1.length → G as as S1) (hG1 : ∀ as : List Addr, as.length = S1.length → G1 as as S1)
    (his : ∀ i ∈ is, i ∈ vs) (his1 : ∀ i ∈ is1, i ∈ vs1) (hv1 : ∀ i ∈ vs1, i ∈ vs) (f : Dat → Env1 → Env1) (f1 : Dat → Dat → Env1 → Env1)
    (hs : ∀ (i : Nat) (d : Dat), ds[i]? = some d → TgD K g d is (f d) ∧ IterD K wi1 (f d (wipeE env vs)) S1 G1 (inn d) S1 ∧ ∀ (j : Nat) (e : Dat), (inn d)[j]? = some e →
      TgD K g1 e is1 (f1 d e) ∧ Ev K te (f1 d e (wipeE (f d (wipeE env vs)) vs1)) S1 (.d (F d e)) S1) :
    EvN K (tLc2 wi g tYes wi1 g1 tYes te vs vs1) env S (ds.flatMap fun d => (inn d).map (F d)) S1 := fun B H as σ c g0 Q q =>
  hw B H as σ c g0 _ fun J B1 H1 c1 e1 w Dl hDl => by
    have hD0 : Nn H Dl := e1.old hDl
    have c1' : Ok K B1 (upd H1 Dl (.lst [])) as S1 := c1.other (c1.Bnone hDl) (c1.fresh hDl)
    have e1' : Evo B H as B1 (upd H1 Dl (.lst [])) := e1.other hD0
    have hg := hG as c1.len
    have hg1 := hG1 as c1.len
    refine ⟨fun i mm H' => mm = ds.length - i ∧ i ≤ ds.length ∧ ∃ B', Ok K B' H' as S1 ∧ Evo B H as B' H' ∧ Ex B1 B' ∧ Acc K Dl B' H' as ((ds.take i).flatMap fun d => (inn d).map (F d)), ⟨_, rfl, Nat.zero_le _, B1, c1', e1', Evl.Ex.refl _, ⟨c1.Bnone hDl, c1.fresh hDl, [], upd_same, .nil⟩⟩, ?_⟩
    rintro i mm H' ⟨rfl, hi, B', c', e', ex', hacc⟩
    by_cases hlt : i < ds.length
    · refine .inr ⟨w.go B' H' as S1 i ex' c' hg hlt, fun H2 => ∃ B2, Ok K B2 H2 as S1 ∧ Evo B H as B2 H2 ∧ Ex B1 B2 ∧ Acc K Dl B2 H2 as ((ds.take (i + 1)).flatMap fun d => (inn d).map (F d)), fun H2 hN => ⟨ds.length - (i + 1), by omega, rfl, hlt, hN⟩, fun x H2 hy => ?_⟩
      obtain ⟨B2, d, c2, e2, hd2, r2⟩ := w.yld B' H' as S1 i x H2 ex' c' hg hlt hy
      obtain ⟨tg, hw1, hin⟩ := hs i d hd2
      have gw : EnvR K B2 as (L2.wipe σ vs) (wipeE env vs) := ((g0.mono e1.ex).wipe vs).mono (ex'.trans e2.ex)
      refine tg B2 H2 as S1 _ _ x c2 gw r2 _ fun σ3 g3 hw3 => ⟨?_, ?_⟩
      · rw [hw3 vs his, wipe_wipe fun _ h => h]
      · show wi1 σ3 H2 _
        refine hw1 B2 H2 as σ3 c2 g3 _ fun J1 B3 H3 c3 e3 w1 => ?_
        have ac3 := (hacc.step e2).step e3
        have e03 := (e'.trans e2).trans e3
        have ex3 := (ex'.trans e2.ex).trans e3.ex
        refine ⟨fun j kk H5 => kk = (inn d).length - j ∧ j ≤ (inn d).length ∧ ∃ B5, Ok K B5 H5 as S1 ∧ Evo B H as B5 H5 ∧ Ex B3 B5 ∧ Acc K Dl B5 H5 as (((ds.take i).flatMap fun d => (inn d).map (F d)) ++ ((inn d).take j).map (F d)),
          ⟨_, rfl, Nat.zero_le _, B3, c3, e03, Evl.Ex.refl _, by simpa using ac3⟩, ?_⟩
        rintro j kk H5 ⟨rfl, hj, B5, c5, e5, ex5, ac5⟩
        by_cases hlj : j < (inn d).length
        · refine .inr ⟨w1.go B5 H5 as S1 j ex5 c5 hg1 hlj, fun H6 => ∃ B6, Ok K B6 H6 as S1 ∧ Evo B H as B6 H6 ∧ Ex B3 B6 ∧ Acc K Dl B6 H6 as (((ds.take i).flatMap fun d => (inn d).map (F d)) ++ ((inn d).take (j + 1)).map (F d)), fun H6 hN => ⟨(inn d).length - (j + 1), by omega, rfl, hlj, hN⟩, fun x6 H6 hy6 => ?_⟩
          obtain ⟨B6, e6, c6, ev6, he6, r6⟩ := w1.yld B5 H5 as S1 j x6 H6 ex5 c5 hg1 hlj hy6
          obtain ⟨tg1, hev⟩ := hin j e6 he6
          have gw1 : EnvR K B6 as (L2.wipe σ3 vs1) (wipeE (f d (wipeE env vs)) vs1) := (((g3.mono e3.ex).mono ex5).wipe vs1).mono ev6.ex
          refine tg1 B6 H6 as S1 _ _ x6 c6 gw1 r6 _ fun σ7 g7 hw7 => ⟨?_, ?_⟩
          · rw [hw7 vs1 his1, wipe_wipe fun _ h => h]
          · show te σ7 H6 _
            refine hev B6 H6 as σ7 c6 g7 _ fun v B7 H7 c7 e7 r7 => ?_
            have ac7 := (ac5.step ev6).step e7
            obtain ⟨ws, hw8, hl8, ac8⟩ := ac7.snoc r7
            refine ⟨ws, hw8, ?_, B7, c7.other ac7.nb ac7.na, ((e5.trans ev6).trans e7).other hD0, (ex5.trans ev6.ex).trans e7.ex, ?_⟩
            · have hb := flat_le (fun d => (inn d).map (F d)) hd2
              rw [hl8, List.length_append, List.length_map, List.length_take]
              rw [List.length_map] at hb
              omega
            · rw [map_take (F d) he6, ← List.append_assoc]
              exact ac8
        · have ej : j = (inn d).length := by omega
          subst ej
          refine .inl ⟨w1.stop B5 H5 as S1 ex5 c5 hg1, B5, c5, e5, ex3.trans ex5, ?_⟩
          rw [flat_take (fun d => (inn d).map (F d)) hd2]
          rw [List.take_length] at ac5
          exact ac5
    · have e : i = ds.length := by omega
      subst e
      rw [List.take_length] at hacc
      obtain ⟨ws, hw4, hr4⟩ := hacc.at_
      exact .inl ⟨w.stop B' H' as S1 ex' c' hg, q Dl B' H' ws c' e' ⟨hacc.na, hD0⟩ hacc.nb hw4 hr4⟩
end
end RW

set_option Elab.async false
set_option linter.all false
set_option maxRecDepth 100000
set_option maxHeartbeats 4000000
namespace RW
open PySem PySem.Spec PyProof.Rows L2
open Evl (Ex)
section
variable {K : PySem.W.Frag} {n : Nat} {te ta tb tc to ti tv : TE} {tt tu : TT} {tA tR : TA} {env env' : Env1} {S S1 S2 S3 : List Dat} {x y z : Sl} {d e : Dat} {ds es : List Dat} {r r' : R2} {P P' : Post} {t u : TS}
  {B B0 B1 B' H H0 H1 H' : Hp} {as as0 as1 : List Addr} {D : Ends} {σ : L2.St} {i k : Nat} {a b c : Bool}
/-! ### what is changed -/
theorem Ok.setc {p : Addr} {o : HO} {s : Dat} (c : Ok K B H as S) (hk : as[k]? = some p) (r : CellO K B o s) (l : LkO as k o s := by exact fun _ _ _ _ h => nomatch h) (ht : ∀ P, adrOf s = some P → p = P := by exact fun _ h => nomatch h) : Ok K B (upd H p o) as (S.set k s) where
  ex := fun a u q => by
    have hl : k < S.length := by rw [← c.len]; exact (List.getElem?_eq_some_iff.mp hk).1
    obtain ⟨hb, _⟩ := c.cells k p S[k] hk (List.getElem?_eq_getElem hl)
    rw [upd_ne (by rintro rfl; rw [hb] at q; cases q)]
    exact c.ex a u q
  len := by rw [List.length_set]; exact c.len
  cells := fun j a s' h1 h2 => by
    by_cases hj : k = j
    · subst hj
      have hl : k < S.length := by rw [← c.len]; exact (List.getElem?_eq_some_iff.mp hk).1
      rw [List.getElem?_set_self hl] at h2
      cases h2
      rw [hk] at h1
      cases h1
      exact ⟨(c.cells k p S[k] hk (List.getElem?_eq_getElem hl)).1, o, upd_same, r⟩
    · rw [List.getElem?_set_ne hj] at h2
      obtain ⟨q1, o', q3, q4⟩ := c.cells j a s' h1 h2
      have ne : a ≠ p := by
        rintro rfl
        have hkl := (List.getElem?_eq_some_iff.mp hk).1
        exact hj ((List.getElem_inj (h₀ := hkl) (h₁ := (List.getElem?_eq_some_iff.mp h1).1) c.nd).mp (by rw [(List.getElem?_eq_some_iff.mp hk).2, (List.getElem?_eq_some_iff.mp h1).2]))
      exact ⟨q1, o', by rw [upd_ne ne]; exact q3, q4⟩
  nd := c.nd
  ntb := c.ntb
  tb := fun j d P h hd => by
    by_cases hj : k = j
    · subst hj
      have hl : k < S.length := by rw [← c.len]; exact (List.getElem?_eq_some_iff.mp hk).1
      rw [List.getElem?_set_self hl] at h
      rw [hk, ht P (by rw [Option.some.inj h]; exact hd)]
    · rw [List.getElem?_set_ne hj] at h
      exact c.tb j d P h hd
  lk := fun j a s' o' h1 h2 h3 => by
    by_cases hj : k = j
    · subst hj
      have hl : k < S.length := by rw [← c.len]; exact (List.getElem?_eq_some_iff.mp hk).1
      rw [List.getElem?_set_self hl] at h2
      cases h2
      rw [hk] at h1
      cases h1
      rw [upd_same] at h3
      cases h3
      exact l
    · rw [List.getElem?_set_ne hj] at h2
      have ne : a ≠ p := by
        rintro rfl
        have hkl := (List.getElem?_eq_some_iff.mp hk).1
        exact hj ((List.getElem_inj (h₀ := hkl) (h₁ := (List.getElem?_eq_some_iff.mp h1).1) c.nd).mp (by rw [(List.getElem?_eq_some_iff.mp hk).2, (List.getElem?_eq_some_iff.mp h1).2]))
      rw [upd_ne ne] at h3
      exact c.lk j a s' o' h1 h2 h3
theorem Evo.setc {p : Addr} {o o1 : HO} (hk : p ∈ as) (h1 : H p = some o1) (ht : ∀ xs, o1 ≠ .tup xs) (hc : ∀ a q, o1 ≠ LamX.CodeO a q := by (intro _ _ z; unfold LamX.CodeO at z; cases z)) (hn : ∀ ps, o ≠ .tbl ps := by exact fun _ z => nomatch z) : Evo B H as B (upd H p o) :=
  ⟨Evl.Ex.refl B, fun a u n q _ => by rw [upd_ne (by rintro rfl; exact n hk)]; exact q, fun _ _ _ _ => .inl rfl, fun a xs fo q => by rw [upd_ne (by rintro rfl; rw [h1] at q; cases q; exact fo.elim (fun ⟨ys, z⟩ => ht ys z) fun ⟨b, r, z⟩ => hc b r z)]; exact q, fun a u q nt => by
    by_cases h : a = p
    · subst h; exact ⟨o, upd_same, hn⟩
    · exact ⟨u, by rw [upd_ne h]; exact q, nt⟩⟩
/-- xs.append(e) -/
theorem ev_append (ho : Ev K to env S (.c k) S1) (h : Ev K te env S1 (.d d) S2) (h1 : ∃ es, S1[k]? = some (.lst es)) (hs : S2[k]? = some (.lst ds)) (hl : ds.length < sizeLine) : Ev K (tBM K "list" rAppend to (tCons te tNil)) env S (.d .non) (S2.set k (.lst (ds ++ [d]))) := fun B H as σ c g Q q =>
  ho B H as σ c g _ fun v B1 H1 c1 e1 r1 => by
    obtain ⟨p, hp, rfl⟩ := r1
    obtain ⟨es, hes⟩ := h1
    obtain ⟨ws, hw, rw'⟩ := (c1.cells k p _ hp hes).2.lst
    refine ⟨.inl ⟨rfl, ws, Evl.sq_of hw⟩, h B1 H1 as σ c1 (g.mono e1.ex) _ fun v B2 H2 c2 e2 r2 => ?_⟩
    obtain ⟨vs, hv, rv⟩ := (c2.cells k p _ hp hs).2.lst
    refine ⟨p, vs, v, rfl, rfl, hv, by rw [rv.length]; exact hl, q .non B2 _ (c2.setc hp (show CellO K B2 (.lst _) (.lst _) from rv.append (.cons r2 .nil))) ((e1.trans e2).trans (Evo.setc (List.mem_of_getElem? hp) hv (fun _ z => nomatch z))) .non⟩
/-- xs.extend(ys) -/
theorem ev_extend (ho : Ev K to env S (.c k) S1) (h : Ev K te env S1 (.d (.lst es)) S2) (h1 : ∃ es, S1[k]? = some (.lst es)) (hs : S2[k]? = some (.lst ds)) (hl : ds.length + es.length ≤ sizeLine) : Ev K (tBM K "list" rExtend to (tCons te tNil)) env S (.d .non) (S2.set k (.lst (ds ++ es))) := fun B H as σ c g Q q =>
  ho B H as σ c g _ fun v B1 H1 c1 e1 r1 => by
    obtain ⟨p, hp, rfl⟩ := r1
    obtain ⟨es', hes⟩ := h1
    obtain ⟨ws, hw, rw'⟩ := (c1.cells k p _ hp hes).2.lst
    refine ⟨.inl ⟨rfl, ws, Evl.sq_of hw⟩, h B1 H1 as σ c1 (g.mono e1.ex) _ fun v B2 H2 c2 e2 r2 => ?_⟩
    obtain ⟨vs, hv, rv⟩ := (c2.cells k p _ hp hs).2.lst
    cases r2 with
    | lst h3 r3 =>
      refine ⟨p, _, vs, _, rfl, rfl, hv, c2.ex _ _ h3, by rw [rv.length, r3.length]; exact hl, q .non B2 _ (c2.setc hp (show CellO K B2 (.lst _) (.lst _) from rv.append r3)) ((e1.trans e2).trans (Evo.setc (List.mem_of_getElem? hp) hv (fun _ z => nomatch z))) .non⟩
/-- xs[i] = e -/
theorem sp_setitem {j : Nat} {iv : Int} (h : Ev K te env S (.d d) S1) (ho : Ev K to env S1 (.c k) S2) (hi : Ev K ti env S2 (.d (.int iv)) S3) (hs : S3[k]? = some (.lst ds)) (hj : ixN ds.length iv = some j) (q : SP K n u env (S3.set k (.lst (ds.set j d))) P) :
    SP K n (tSeq (tAsg te (gSub to ti rSetL)) u) env S P := fun B0 H0 as0 Bk B H as σ hl f c g D m =>
  h B H as σ c g _ fun v B1 H1 c1 e1 r1 => ho B1 H1 as σ c1 (g.mono e1.ex) _ fun w B2 H2 c2 e2 r2 => hi B2 H2 as σ c2 (g.mono (e1.trans e2).ex) _ fun w3 B3 H3 c3 e3 r3 => by
    obtain ⟨p, hp, rfl⟩ := r2
    cases r3
    obtain ⟨vs, hv, rv⟩ := (c3.cells k p _ hp hs).2.lst
    have e03 := ((e1.trans e2).trans e3).trans (Evo.setc (o := .lst (vs.set j v)) (List.mem_of_getElem? hp) hv (fun _ z => nomatch z))
    exact ⟨p, vs, iv, j, rfl, rfl, hv, by rw [rv.length]; exact hj, q B0 H0 as0 Bk B3 _ as σ hl (f.step e03) (c3.setc hp (show CellO K B3 (.lst _) (.lst _) from Reps.set j (Rep.mono (e2.trans e3).ex r1) rv)) (g.mono e03.ex) D m⟩
/-- x op= e -/
theorem sp_aug {fn : Int → Int → Int} {p q : Int} (hx : env[i]? = some (some (.d (.int p)))) (h : Ev K te env S (.d (.int q)) S1) (k : SP K n u (env.set i (some (.d (.int (fn p q))))) S1 P) : SP K n (tSeq (tAug i te (ipI fn)) u) env S P := fun B0 H0 as0 Bk B H as σ hl f c g D m => by
  obtain ⟨v, h1, h2⟩ := g.2 i _ hx
  cases h2
  exact ⟨_, h1, h B H as σ c g _ fun w B1 H1 c1 e1 r1 => by
    cases r1
    exact ⟨p, q, rfl, rfl, k B0 H0 as0 Bk B1 H1 as _ hl (f.step e1) c1 (EnvR.set (s := .d (.int (fn p q))) i (g.mono e1.ex) (.int _)) D m⟩⟩
theorem sp_aug1 {fn : Int → Int → Int} {p q : Int} (hx : env[i]? = some (some (.d (.int p)))) (h : Ev K te env S (.d (.int q)) S1) (k : P.nx (env.set i (some (.d (.int (fn p q))))) S1) : SP K n (tAug i te (ipI fn)) env S P := fun B0 H0 as0 Bk B H as σ hl f c g D m => by
  obtain ⟨v, h1, h2⟩ := g.2 i _ hx
  cases h2
  exact ⟨_, h1, h B H as σ c g _ fun w B1 H1 c1 e1 r1 => by
    cases r1
    exact ⟨p, q, rfl, rfl, m.nx _ S1 B1 H1 as _ (f.step e1) c1 (EnvR.set (s := .d (.int (fn p q))) i (g.mono e1.ex) (.int _)) k⟩⟩
/-- a, b = e1, e2 -/
theorem sp_par {i j : Nat} (h : EvA K tA env S [x, y] S1) (k : SP K n u ((env.set i (some x)).set j (some y)) S1 P) : SP K n (tSeq (tPar i j tA) u) env S P := fun B0 H0 as0 Bk B H as σ hl f c g D m =>
  h B H as σ c g _ fun vs B1 H1 c1 e1 r1 => by
    cases r1 with
    | cons r1 rr =>
      cases rr with
      | cons r2 rr =>
        cases rr
        exact ⟨_, _, rfl, k B0 H0 as0 Bk B1 H1 as _ hl (f.step e1) c1 (((g.mono e1.ex).set i r1).set j r2) D m⟩
/-! ### instances -/
def putFD (f : Str) (v : Dat) : List (Str × Dat) → List (Str × Dat)
  | [] => [(f, v)]
  | (g, x) :: r => if g = f then (g, v) :: r else (g, x) :: putFD f v r
theorem RepF.put {f : Str} {v : V} : ∀ {vs : List (Str × V)} {fs : List (Str × Dat)}, Rep K B v d → RepF K B vs fs → RepF K B (putF f v vs) (putFD f d fs)
  | _, _, h, .nil => .cons h .nil
  | _, _, h, .cons (f := g) h1 r => by
    unfold putF putFD
    split
    · exact .cons h r
    · exact .cons h1 (RepF.put h r)
  | _, _, h, .cel (f := g) r => by
    unfold putF putFD
    split
    · exact .cons h r
    · exact .cel (RepF.put h r)
theorem RepF.length : ∀ {vs : List (Str × V)} {fs : List (Str × Dat)}, RepF K B vs fs → vs.length = fs.length
  | _, _, .nil => rfl
  | _, _, .cons _ r => by rw [List.length_cons, List.length_cons, RepF.length r]
  | _, _, .cel r => by rw [List.length_cons, List.length_cons, RepF.length r]
theorem putFD_look {f f' : Str} {v : Dat} : ∀ {fs : List (Str × Dat)}, (putFD f v fs).lookup f' = if f' = f then some v else fs.lookup f'
  | [] => by
    unfold putFD
    by_cases h : f' = f
    · subst h; rw [if_pos rfl]; simp [List.lookup]
    · have q : (f' == f) = false := by simpa using h
      rw [if_neg h]; simp only [List.lookup, q]
  | (g, x) :: r => by
    unfold putFD
    by_cases hg : g = f
    · subst hg
      rw [if_pos rfl]
      by_cases h : f' = g
      · subst h; rw [if_pos rfl]; simp [List.lookup]
      · have q : (f' == g) = false := by simpa using h
        rw [if_neg h]; simp only [List.lookup, q]
    · rw [if_neg hg]
      by_cases h : f' = g
      · subst h; rw [if_neg hg]; simp [List.lookup]
      · have q : (f' == g) = false := by simpa using h
        simp only [List.lookup, q]
        exact putFD_look
theorem putF_look {f f' : Str} {v : V} : ∀ {fs : List (Str × V)}, (putF f v fs).lookup f' = if f' = f then some v else fs.lookup f'
  | [] => by
    unfold putF
    by_cases h : f' = f
    · subst h; rw [if_pos rfl]; simp [List.lookup]
    · have q : (f' == f) = false := by simpa using h
      rw [if_neg h]; simp only [List.lookup, q]
  | (g, x) :: r => by
    unfold putF
    by_cases hg : g = f
    · subst hg
      rw [if_pos rfl]
      by_cases h : f' = g
      · subst h; rw [if_pos rfl]; simp [List.lookup]
      · have q : (f' == g) = false := by simpa using h
        rw [if_neg h]; simp only [List.lookup, q]
    · rw [if_neg hg]
      by_cases h : f' = g
      · subst h; rw [if_neg hg]; simp [List.lookup]
      · have q : (f' == g) = false := by simpa using h
        simp only [List.lookup, q]
        exact putF_look
theorem Ok.lkput {p C dx : Addr} {f : Str} {v : V} {vs : List (Str × V)} {fs : List (Str × Dat)} (c : Ok K B H as S) (hp : as[k]? = some p) (hs : S[k]? = some (.ins C fs)) (hv : H p = some (.ins C dx vs)) (r : Rep K B v d) : LkO as k (.ins C dx (putF f v vs)) (.ins C (putFD f d fs)) := fun C' fs' f' j e h1 h2 => by
  cases e
  rw [putFD_look] at h1
  by_cases h : f' = f
  · rw [if_pos h] at h1; cases h1; cases r
  · rw [if_neg h] at h1
    obtain ⟨b, dx', vs', q1, q2, q3⟩ := c.lk k p _ _ hp hs hv C fs f' j rfl h1 h2
    cases q2
    exact ⟨b, dx, _, q1, rfl, by rw [putF_look, if_neg h]; exact q3⟩
theorem ev_fld {C : Addr} {fs : List (Str × Dat)} {f : Str} (h : Ev K ta env S (.d (.ins C fs)) S1) (cl : Cls K C) (na : NoAttr K C f) (hf : fs.lookup f = some d) (hd : ∀ j, d ≠ .cel j := by exact fun _ z => nomatch z) : Ev K (tFld K ta f) env S (.d d) S1 := fun B H as σ c g Q q =>
  h B H as σ c g _ fun v B1 H1 c1 e1 r1 => by
    cases r1 with
    | ins h1 r1 =>
      obtain ⟨v, hv, rv⟩ := r1.get hf hd
      exact ⟨_, C, _, _, v, rfl, c1.ex _ _ h1, cl, na, hv, q v B1 H1 c1 e1 rv⟩
theorem ev_fldC {C : Addr} {fs : List (Str × Dat)} {f : Str} (h : Ev K ta env S (.c k) S1) (hs : S1[k]? = some (.ins C fs)) (cl : Cls K C) (na : NoAttr K C f) (hf : fs.lookup f = some d) (hd : ∀ j, d ≠ .cel j := by exact fun _ z => nomatch z) : Ev K (tFld K ta f) env S (.d d) S1 := fun B H as σ c g Q q =>
  h B H as σ c g _ fun v B1 H1 c1 e1 r1 => by
    obtain ⟨p, hp, rfl⟩ := r1
    obtain ⟨dx, vs, hv, rv⟩ := (c1.cells k p _ hp hs).2.ins
    obtain ⟨v, hv', rv'⟩ := rv.get hf hd
    exact ⟨p, C, dx, vs, v, rfl, hv, cl, na, hv', q v B1 H1 c1 e1 rv'⟩
/-- self.f = e -/
theorem sp_fld {C : Addr} {fs : List (Str × Dat)} {f : Str} (h : Ev K tv env S (.d d) S1) (ho : Ev K ta env S1 (.c k) S2) (hs : S2[k]? = some (.ins C fs)) (cl : Cls K C) (na : NoAttr K C f) (hl : fs.length < 1000) (q : SP K n u env (S2.set k (.ins C (putFD f d fs))) P) :
    SP K n (tSeq (sFld K ta tv f) u) env S P := fun B0 H0 as0 Bk B H as σ hl0 f0 c g D m =>
  h B H as σ c g _ fun v B1 H1 c1 e1 r1 => ho B1 H1 as σ c1 (g.mono e1.ex) _ fun w B2 H2 c2 e2 r2 => by
    obtain ⟨p, hp, rfl⟩ := r2
    obtain ⟨dx, vs, hv, rv⟩ := (c2.cells k p _ hp hs).2.ins
    have e03 := (e1.trans e2).trans (Evo.setc (o := .ins C dx (putF f v vs)) (List.mem_of_getElem? hp) hv (fun _ z => nomatch z))
    exact ⟨p, C, dx, vs, rfl, hv, cl, na, by rw [rv.length]; exact hl, q B0 H0 as0 Bk B2 _ as σ hl0 (f0.step e03) (c2.setc hp (show CellO K B2 (.ins C dx _) (.ins C _) from ⟨rfl, RepF.put (Rep.mono e2.ex r1) rv⟩) (c2.lkput hp hs hv (Rep.mono e2.ex r1))) (g.mono e03.ex) D m⟩
theorem sp_fld1 {C : Addr} {fs : List (Str × Dat)} {f : Str} (h : Ev K tv env S (.d d) S1) (ho : Ev K ta env S1 (.c k) S2) (hs : S2[k]? = some (.ins C fs)) (cl : Cls K C) (na : NoAttr K C f) (hl : fs.length < 1000) (q : P.nx env (S2.set k (.ins C (putFD f d fs)))) :
    SP K n (sFld K ta tv f) env S P := fun B0 H0 as0 Bk B H as σ hl0 f0 c g D m =>
  h B H as σ c g _ fun v B1 H1 c1 e1 r1 => ho B1 H1 as σ c1 (g.mono e1.ex) _ fun w B2 H2 c2 e2 r2 => by
    obtain ⟨p, hp, rfl⟩ := r2
    obtain ⟨dx, vs, hv, rv⟩ := (c2.cells k p _ hp hs).2.ins
    have e03 := (e1.trans e2).trans (Evo.setc (o := .ins C dx (putF f v vs)) (List.mem_of_getElem? hp) hv (fun _ z => nomatch z))
    exact ⟨p, C, dx, vs, rfl, hv, cl, na, by rw [rv.length]; exact hl, m.nx _ _ B2 _ as _ (f0.step e03) (c2.setc hp (show CellO K B2 (.ins C dx _) (.ins C _) from ⟨rfl, RepF.put (Rep.mono e2.ex r1) rv⟩) (c2.lkput hp hs hv (Rep.mono e2.ex r1))) (g.mono e03.ex) q⟩
/-- C(e, ..): a new instance, filled by its __init__ -/
theorem ev_make {C : Addr} {G : List Sl → List Dat → Dat → List Dat → Prop} {ss : List Sl} {E : XK} {fs : List (Str × Dat)} (h : EvA K tA env S ss S1) (hg : G (.c S1.length :: ss) (S1 ++ [.ins C []]) .non (S2 ++ [.ins C fs])) (hl : S2.length = S1.length) :
    Ev K (tMake C (SpD K G) [] E tA) env S (.d (.ins C fs)) S2 := fun B H as σ c g Q q =>
  h B H as σ c g _ fun vs B1 H1 c1 e1 r1 x dx hx hdx hne => by
    have hB := c1.Bnone hx
    have hxa := c1.fresh hx
    have hdB := c1.Bnone hdx
    have hda := c1.fresh hdx
    have c2 : Ok K B1 (upd (upd H1 dx (.own x)) x (.ins C dx [])) as S1 := (c1.other hdB hda).other hB hxa
    have e2 : Evo B1 H1 as B1 (upd (upd H1 dx (.own x)) x (.ins C dx [])) := (Evo.refl.other (.of hdx)).other (.of hx)
    have c3 : Ok K B1 (upd (upd H1 dx (.own x)) x (.ins C dx [])) (as ++ [x]) (S1 ++ [.ins C []]) := c2.push hB hxa (CellAt.ofI upd_same .nil) (fun _ _ _ _ _ _ e q _ => by cases e; cases q)
    have r3 : RepSs K B1 (as ++ [x]) (.ref x :: (vs ++ [])) (.c S1.length :: ss) := by
      refine .cons ⟨x, by rw [← c1.len]; simp, rfl⟩ ?_
      rw [List.append_nil]
      have grow : ∀ {vs : List V} {ss : List Sl}, RepSs K B1 as vs ss → RepSs K B1 (as ++ [x]) vs ss := by
        intro vs ss h
        induction h with
        | nil => exact .nil
        | cons h _ ih => exact .cons h.grow ih
      exact grow r1
    refine ⟨B1, as ++ [x], _, _, _, _, c3, r3, hg, fun v B4 H4 c4 e4 r4 => ⟨by cases r4; rfl, ?_⟩⟩
    have hk : (as ++ [x])[as.length]? = some x := by simp
    have hs : (S2 ++ [Dat.ins C fs])[as.length]? = some (.ins C fs) := by
      rw [c1.len, ← hl]; simp
    obtain ⟨hb4, hc4⟩ := c4.cells as.length x _ hk hs
    obtain ⟨dx', ws, hw, rw'⟩ := hc4.ins
    have c5 : Ok K B4 H4 as S2 := by
      have := c4.upto as.length
      rw [List.take_left, show as.length = S2.length by rw [c1.len, hl], List.take_left] at this
      exact this
    have nd := c4.nd
    have hx4 : x ∉ as := fun hm => (List.nodup_append.mp nd).2.2 x hm x (by simp) rfl
    have x0 : Nn H x := e1.old hx
    have e5 : Evo B H as B4 H4 := by
      have e12 := e1.trans e2
      refine ⟨e12.ex.trans e4.ex, fun a o hn q nt => e4.fr a o (fun hm => (List.mem_append.mp hm).elim hn fun z => ?_) (e12.fr a o hn q nt) nt, fun a o q nt => let ⟨o1, h1, n1⟩ := e12.pr a o q nt; (e4.gr a o1 h1 n1).elim (fun z => (e12.gr a o q nt).elim (fun z2 => .inl (z.trans z2)) fun ⟨o, fo, h⟩ => .inr ⟨o, fo, e4.tp a o fo h⟩) .inr, fun a o fo h => e4.tp a o fo (e12.tp a o fo h), fun a o q nt => let ⟨o1, h1, n1⟩ := e12.pr a o q nt; e4.pr a o1 h1 n1⟩
      rw [List.mem_singleton.mp z] at q
      exact x0.no q nt
    refine q (.ref x) (upd B4 x (.ins C dx' ws)) H4 (c5.know hw hb4 hx4) ⟨e5.ex.trans (Evl.Ex.new hb4), e5.fr, fun a o q nt => by rw [upd_ne (by rintro rfl; exact x0.no q nt)]; exact e5.gr a o q nt, e5.tp, e5.pr⟩ (.ins upd_same (RepF.mono (Evl.Ex.new hb4) rw'))
end
end RW

set_option Elab.async false
set_option linter.all false
set_option maxRecDepth 100000
set_option maxHeartbeats 4000000
namespace RW
open PySem PySem.Spec PyProof.Rows L2
open Evl (Ex)
section
variable {K : PySem.W.Frag} {n : Nat} {te ta tb tc to ti tv : TE} {tt tu : TT} {tA tR : TA} {env env' : Env1} {S S1 S2 S3 : List Dat} {x y z : Sl} {d e : Dat} {ds es : List Dat} {r r' : R2} {P P' : Post} {t u : TS}
  {B B0 B1 B' H H0 H1 H' : Hp} {as as0 as1 : List Addr} {D : Ends} {σ : L2.St} {i k : Nat} {a b c : Bool}
/-! ### enumerate, reversed(range) -/
def enumD (ds : List Dat) : List Dat := ds.mapIdx fun i d => Dat.tup [.int (i : Nat), d]
theorem enumD_len : (enumD ds).length = ds.length := by unfold enumD; rw [List.length_mapIdx]
theorem enumD_get {i : Nat} {d : Dat} (h : ds[i]? = some d) : (enumD ds)[i]? = some (.tup [.int (i : Nat), d]) := by
  unfold enumD
  rw [List.getElem?_mapIdx, h]
  rfl
theorem it_enum (h : EvA K tA env S [x] S1) (hx : Seq S1 x ds) : IterD K (iEnumG K tA) env S (fun as as2 S2 => GS x ds as as2 S2) (enumD ds) S1 := fun B H as σ c g R q => h B H as σ c g _ fun vs B1 H1 c1 e1 r1 => by
  cases r1 with
  | cons r1 rr =>
    cases rr
    obtain ⟨a1, k1, rfl, ⟨w1, q1⟩, st1⟩ := seq_stays c1 hx r1
    refine ⟨a1, k1, w1, rfl, q1, q _ B1 H1 c1 e1 ⟨fun B2 H2 as2 S2 i e c2 g2 hi => ?_, fun B2 H2 as2 S2 i x H3 e c2 g2 hi y => ?_, fun B2 H2 as2 S2 e c2 g2 => ?_⟩⟩
    · obtain ⟨u1, p1, rp1⟩ := st1 B2 H2 as2 S2 e c2 g2
      rw [enumD_len] at hi
      obtain ⟨v1, hv1, _⟩ := rp1.get (List.getElem?_eq_getElem hi)
      exact ⟨u1, v1, p1, hv1⟩
    · obtain ⟨u1, p1, rp1⟩ := st1 B2 H2 as2 S2 e c2 g2
      obtain ⟨T, v1, rfl, hT, rfl, y1⟩ := y
      obtain ⟨d1, hd1, r1⟩ := rp1.get' (y1 u1 p1)
      have hB : Ex B2 (upd B2 T (.tup [.int (i : Nat), v1])) := Evl.Ex.new (c2.Bnone hT)
      exact ⟨upd B2 T (.tup [.int (i : Nat), v1]), .tup [.int (i : Nat), d1], c2.new hT, Evo.new c2 hT, enumD_get hd1, .tup (Evl.st_of upd_same) (.cons (.int _) (.cons (r1.mono hB) .nil))⟩
    · obtain ⟨u1, p1, rp1⟩ := st1 B2 H2 as2 S2 e c2 g2
      exact ⟨u1, p1, by rw [enumD_len, rp1.length]⟩
/-- hi - 1, .., lo -/
def rngR (lo : Int) (n : Nat) : List Dat := (List.range n).map fun i => Dat.int (lo + (n : Int) - 1 + (i : Nat) * (-1))
theorem rngR_len {lo : Int} {n : Nat} : (rngR lo n).length = n := by unfold rngR; rw [List.length_map, List.length_range]
theorem rngR_get {lo : Int} {n i : Nat} (h : i < n) : (rngR lo n)[i]? = some (.int (lo + (n : Int) - 1 + (i : Nat) * (-1))) := by
  unfold rngR
  rw [List.getElem?_map, List.getElem?_range h]
  rfl
theorem walk_rngR {lo : Int} {n : Nat} {G : List Addr → List Dat → Prop} : WalkD K B (Itc (lo + (n : Int) - 1) (-1) n) G (rngR lo n) where
  go := fun B2 H2 as2 S2 i _ _ _ hi => by rw [rngR_len] at hi; exact hi
  yld := fun B2 H2 as2 S2 i x H3 _ c _ hi y => by
    rw [rngR_len] at hi
    obtain ⟨rfl, rfl⟩ := y
    exact ⟨B2, _, c, Evo.refl, rngR_get hi, .int _⟩
  stop := fun B2 H2 as2 S2 _ _ _ => by rw [rngR_len]; exact Nat.le_refl _
theorem it_rev1 {j : Int} (h : Ev K ta env S (.d (.int j)) S1) (hj : -(2 ^ 62) ≤ j ∧ j < 2 ^ 62) : IterD K (iRevR (tRg1 ta)) env S G0 (rngR 0 j.toNat) S1 := fun B H as σ c g R q => h B H as σ c g _ fun v B1 H1 c1 e1 r1 => by
  cases r1
  refine ⟨j, rfl, by decide, by decide, hj.1, hj.2, ?_⟩
  have e0 : (j - 0).toNat = j.toNat := by rw [Int.sub_zero]
  rw [e0]
  exact q _ B1 H1 c1 e1 walk_rngR
/-! ### == of data -/
mutual
def py : Dat → PyData
  | .non => .none
  | .bl b => .bool b
  | .int i => .int i
  | .str s => .str s
  | .tup xs => .tuple (pyAll xs)
  | .lst xs => .list (pyAll xs)
  | .ty _ => .none
  | .scr _ => .none
  | .ins _ _ => .none
  | .adr _ => .none
  | .dic _ => .none
  | .cel _ => .none
  | .tab _ _ => .none
  | .dd => .dict []
  | .lsa _ _ => .none
  | .dkd _ => .none
  | .dtd _ => .none
  | .dct _ => .none
def pyAll : List Dat → List PyData
  | [] => []
  | x :: xs => py x :: pyAll xs
end
inductive Pl : Nat → Dat → Prop
  | non {m : Nat} : Pl m .non
  | bl {m : Nat} (b : Bool) : Pl m (.bl b)
  | int {m : Nat} (i : Int) : Pl m (.int i)
  | str {m : Nat} {s : Str} (h : (PyData.str s).canLay0 = true) : Pl m (.str s)
  | tup {m : Nat} {ds : List Dat} (h : ∀ d ∈ ds, Pl m d) : Pl (m + 1) (.tup ds)
  | lst {m : Nat} {ds : List Dat} (h : ∀ d ∈ ds, Pl m d) : Pl (m + 1) (.lst ds)
theorem pyAll_lay {m : Nat} : ∀ {ds : List Dat}, (∀ d ∈ ds, (py d).canLay0 = true ∧ (py d).depth ≤ m) → PyData.canLayAll0 (pyAll ds) = true ∧ PyData.depthAll (pyAll ds) ≤ m
  | [], _ => ⟨rfl, Nat.zero_le _⟩
  | d :: ds, h => by
    obtain ⟨h1, h2⟩ := pyAll_lay (ds := ds) fun d hd => h d (List.mem_cons_of_mem _ hd)
    obtain ⟨h3, h4⟩ := h d List.mem_cons_self
    refine ⟨?_, ?_⟩
    · show (PyData.canLay0 (py d) && PyData.canLayAll0 (pyAll ds)) = true
      rw [h1, h3]; rfl
    · show max (PyData.depth (py d)) (PyData.depthAll (pyAll ds)) ≤ m
      omega
theorem Pl.lay {m : Nat} (h : Pl m d) : (py d).canLay0 = true ∧ (py d).depth ≤ m := by
  induction h with
  | non => exact ⟨rfl, Nat.zero_le _⟩
  | bl b => exact ⟨rfl, Nat.zero_le _⟩
  | int i => exact ⟨rfl, Nat.zero_le _⟩
  | str h => exact ⟨h, Nat.zero_le _⟩
  | tup h ih =>
    obtain ⟨h1, h2⟩ := pyAll_lay ih
    exact ⟨h1, Nat.succ_le_succ h2⟩
  | lst h ih =>
    obtain ⟨h1, h2⟩ := pyAll_lay ih
    exact ⟨h1, Nat.succ_le_succ h2⟩
theorem Pl.shaped {m : Nat} (h : Pl m d) (hm : m ≤ 64) : SeqAt.shaped (py d) = true := by
  unfold SeqAt.shaped
  rw [h.lay.1, decide_eq_true (Nat.le_trans h.lay.2 hm)]
  rfl
theorem dpAll_of {m : Nat} : ∀ {vs : List V} {ds : List Dat}, (∀ d ∈ ds, ∀ v, Rep K H v d → Dp K H v (py d)) → Reps K H vs ds → DpAll K H vs (pyAll ds)
  | _, [], _, .nil => .nil
  | _, d :: ds, h, .cons r rr => .cons (h d List.mem_cons_self _ r) (dpAll_of (m := m) (fun d hd => h d (List.mem_cons_of_mem _ hd)) rr)
theorem Pl.dp {m : Nat} (h : Pl m d) : ∀ v, Rep K H v d → Dp K H v (py d) := by
  induction h with
  | non => intro v r; cases r; exact .non
  | bl b => intro v r; cases r; exact .bl b
  | int i => intro v r; cases r; exact .int i
  | str h => intro v r; cases r; exact .str _
  | tup h ih =>
    intro v r
    cases r with
    | tup h1 r1 => exact .tup h1 (dpAll_of (m := 0) ih r1)
  | lst h ih =>
    intro v r
    cases r with
    | lst h1 r1 => exact .lst (Evl.sq_of h1) (dpAll_of (m := 0) ih r1)
/-- what an operand is, as data -/
def PlS (S : List Dat) (x : Sl) (m : Nat) (d : Dat) : Prop := Pl m d ∧ (x = .d d ∨ ∃ k ds, x = .c k ∧ d = .lst ds ∧ S[k]? = some (.lst ds))
theorem plS_d {m : Nat} (h : Pl m d) : PlS S (.d d) m d := ⟨h, .inl rfl⟩
theorem plS_c {m k : Nat} (h : Pl m (.lst ds)) (hk : S[k]? = some (.lst ds)) : PlS S (.c k) m (.lst ds) := ⟨h, .inr ⟨k, ds, rfl, rfl, hk⟩⟩
theorem PlS.dp {m : Nat} {v : V} (h : PlS S x m d) (c : Ok K B H as S) (r : RepS K B as v x) : Dp K H v (py d) := by
  obtain ⟨hp, rfl | ⟨k, ds, rfl, rfl, hk⟩⟩ := h
  · exact hp.dp v (Rep.mono c.ex r)
  · obtain ⟨a, ha, rfl⟩ := r
    obtain ⟨vs, hv, rv⟩ := (c.cells k a _ ha hk).2.lst
    have rv' : Reps K H vs ds := Reps.mono c.ex rv
    exact hp.dp (.ref a) (.lst hv rv')
def eqD (d e : Dat) : Bool := PyData.eqv (py d) (py e)
theorem op2_eqD {m1 m2 : Nat} (h1 : PlS S x m1 d) (h2 : PlS S y m2 e) (hm1 : m1 ≤ 64) (hm2 : m2 ≤ 64) : Op2 K (rEqD K) x y S (.bl (eqD d e)) := fun B H as v w c r1 r2 Q q =>
  ⟨py d, py e, h1.dp c r1, h2.dp c r2, h1.1.shaped hm1, h2.1.shaped hm2, q _ B H c Evo.refl (.bl _)⟩
theorem op2_neD {m1 m2 : Nat} (h1 : PlS S x m1 d) (h2 : PlS S y m2 e) (hm1 : m1 ≤ 64) (hm2 : m2 ≤ 64) : Op2 K (rNeD K) x y S (.bl (!eqD d e)) := fun B H as v w c r1 r2 Q q =>
  ⟨py d, py e, h1.dp c r1, h2.dp c r2, h1.1.shaped hm1, h2.1.shaped hm2, q _ B H c Evo.refl (.bl _)⟩
theorem eqD_refl {m : Nat} (h : Pl m d) : eqD d d = true := SeqAt.eqv_refl _ h.lay.1
theorem eqD_int {i j : Int} : eqD (.int i) (.int j) = decide (i = j) := by
  show (i == j) = _
  by_cases h : i = j
  · subst h; simp
  · simp [h]
theorem eqvAll_map {α : Type} [DecidableEq α] (f : α → Dat) (h : ∀ x y, eqD (f x) (f y) = decide (x = y)) : ∀ xs ys : List α, PyData.eqvAll (pyAll (xs.map f)) (pyAll (ys.map f)) = decide (xs = ys)
  | [], [] => by simp [pyAll, PyData.eqvAll]
  | [], y :: ys => by simp [pyAll, PyData.eqvAll]
  | x :: xs, [] => by simp [pyAll, PyData.eqvAll]
  | x :: xs, y :: ys => by
    show (PyData.eqv (py (f x)) (py (f y)) && PyData.eqvAll (pyAll (xs.map f)) (pyAll (ys.map f))) = _
    rw [eqvAll_map f h xs ys]
    have := h x y
    unfold eqD at this
    rw [this]
    by_cases h1 : x = y <;> by_cases h2 : xs = ys <;> simp [h1, h2]
theorem eqD_tup {α : Type} [DecidableEq α] (f : α → Dat) (h : ∀ x y, eqD (f x) (f y) = decide (x = y)) (xs ys : List α) : eqD (.tup (xs.map f)) (.tup (ys.map f)) = decide (xs = ys) := eqvAll_map f h xs ys
theorem eqD_lst {α : Type} [DecidableEq α] (f : α → Dat) (h : ∀ x y, eqD (f x) (f y) = decide (x = y)) (xs ys : List α) : eqD (.lst (xs.map f)) (.lst (ys.map f)) = decide (xs = ys) := eqvAll_map f h xs ys
theorem op2_eq_int {i j : Int} : Op2 K rEq (.d (.int i)) (.d (.int j)) S (.bl (decide (i = j))) := fun B H as v w c h1 h2 Q q => by
  cases h1; cases h2
  have e : decide (V.int i = V.int j) = decide (i = j) := by
    by_cases h : i = j
    · subst h; simp
    · simp [h]
  refine ⟨rfl, ?_⟩
  rw [e]
  exact q _ B H c Evo.refl (.bl _)
theorem op2_ne_int {i j : Int} : Op2 K rNe (.d (.int i)) (.d (.int j)) S (.bl (!decide (i = j))) := fun B H as v w c h1 h2 Q q => by
  cases h1; cases h2
  have e : decide (V.int i = V.int j) = decide (i = j) := by
    by_cases h : i = j
    · subst h; simp
    · simp [h]
  refine ⟨rfl, ?_⟩
  rw [e]
  exact q _ B H c Evo.refl (.bl _)
/-! ### isinstance -/
def tyD : Dat → Option String
  | .non => some "NoneType"
  | .bl _ => some "bool"
  | .int _ => some "int"
  | .str _ => some "str"
  | .tup _ => some "tuple"
  | .lst _ => some "list"
  | .dd => some "dict"
  | _ => none
theorem tyX_of {T : String} {v : V} (c : Ok K B H as S) (h : tyD d = some T) (r : Rep K B v d) : TyX K H v (.type T) := by
  cases r with
  | non => cases h; exact .base .non
  | bl b => cases h; exact .base (.bl b)
  | int i => cases h; exact .base (.int i)
  | str s => cases h; exact .base (.str s)
  | ty n => cases h
  | tup h1 r1 =>
    cases h
    rcases Evl.ex_t c.ex h1 with (z | ⟨o, z⟩) | ⟨o, its, n, z, zc, _⟩
    · exact .base (.tup z)
    · exact .fTuple z
    · exact .kTuple z zc
  | lst h1 r1 => cases h; exact .base (.lst (c.ex _ _ h1))
  | scr h1 => cases h
  | ins h1 r1 => cases h
  | adr a => cases h
  | dd h1 => cases h; exact .base (.dT (c.ex _ _ h1))
  | dct h1 h2 r => cases h
theorem cd_isi {T N : String} (h : tyD d = some T) (hk : kitB T N = some b) : CallD K (rIsi K) [.d d, .d (.ty N)] S (.bl b) S := fun B H as vs c r Q q => by
  cases r with
  | cons r1 rr =>
    cases rr with
    | cons r2 rr =>
      cases rr; cases r2
      exact ⟨_, _, .type T, .type N, b, rfl, .ty N, tyX_of c h r1, kit_ty hk, q _ B H c Evo.refl (.bl b)⟩
/-- what an own class is for isinstance -/
structure InsC (K : PySem.W.Frag) (C : Addr) : Prop where
  cl : Cls K C
  ha : PySem.W.findIn K (.ref C) "__class__" = some (some (.builtin "object.__class__"))
  hn : PySem.W.specialIn K (.builtin "object.__class__") "__get__" = some (some (.builtin "getset_descriptor.__get__"))
  htk : PySem.W.takesIn K (.builtin "object.__class__") = some true
  hm : PySem.W.mroIn K C (.type "object") = some true
theorem cd_isiI {C : Addr} {fs : List (Str × Dat)} {cv : V} {cu : Value} {cd : Dat} (T : InsC K C) (hc : ∀ B v, Rep K B v cd → v = cv) (hcv : ClsV cv cu) (hk : PySem.W.kitOne K (.ref C) cu = some b) : CallD K (rIsi K) [.d (.ins C fs), .d cd] S (.bl b) S := fun B H as vs c r Q q => by
  cases r with
  | cons r1 rr =>
    cases rr with
    | cons r2 rr =>
      cases rr
      have e := hc _ _ r2
      subst e
      cases r1 with
      | ins h1 r1 => exact ⟨_, _, .ref C, cu, b, rfl, hcv, .base (.ins (c.ex _ _ h1) T.cl T.ha T.hn T.htk T.hm), hk, q _ B H c Evo.refl (.bl b)⟩
/-- an instance, asked for its own class -/
theorem cd_isiO {C C' : Addr} {fs : List (Str × Dat)} (T : InsC K C) (hk : PySem.W.kitOne K (.ref C) (.ref C') = some b) : CallD K (rIsi K) [.d (.ins C fs), .d (.adr C')] S (.bl b) S :=
  cd_isiI T (fun B v r => by cases r; rfl) (.own C') hk
/-- another value, asked for an own class -/
theorem cd_isiN {T : String} {C : Addr} (h : tyD d = some T) (hk : PySem.W.kitOne K (.type T) (.ref C) = some b) : CallD K (rIsi K) [.d d, .d (.adr C)] S (.bl b) S := fun B H as vs c r Q q => by
  cases r with
  | cons r1 rr =>
    cases rr with
    | cons r2 rr =>
      cases rr; cases r2
      exact ⟨_, _, .type T, .ref C, b, rfl, .own C, tyX_of c h r1, hk, q _ B H c Evo.refl (.bl b)⟩
end
end RW

set_option Elab.async false
set_option linter.all false
set_option maxRecDepth 100000
set_option maxHeartbeats 4000000
namespace RW
open PySem PySem.Spec PyProof.Rows L2
open Evl (Ex)
section
variable {K : PySem.W.Frag} {n : Nat} {te ta tb tc to ti tv : TE} {tt tu : TT} {tA tR : TA} {env env' : Env1} {S S1 S2 S3 : List Dat} {x y z : Sl} {d e : Dat} {ds es : List Dat} {r r' : R2} {P P' : Post} {t u : TS}
  {B B0 B1 B' H H0 H1 H' : Hp} {as as0 as1 : List Addr} {D : Ends} {σ : L2.St} {i j : Int} {k : Nat} {a b c : Bool}
theorem o_le : Op2 K (rI0 fun i j => V.bl (decide (i ≤ j))) (.d (.int i)) (.d (.int j)) S (.bl (decide (i ≤ j))) := op2_int0 fun B => .bl _
theorem o_lt : Op2 K (rI0 fun i j => V.bl (decide (i < j))) (.d (.int i)) (.d (.int j)) S (.bl (decide (i < j))) := op2_int0 fun B => .bl _
theorem o_gt : Op2 K (rI0 fun i j => V.bl (decide (j < i))) (.d (.int i)) (.d (.int j)) S (.bl (decide (j < i))) := op2_int0 fun B => .bl _
theorem o_ge : Op2 K (rI0 fun i j => V.bl (decide (j ≤ i))) (.d (.int i)) (.d (.int j)) S (.bl (decide (j ≤ i))) := op2_int0 fun B => .bl _
theorem o_leT (h : i ≤ j) : Op2 K (rI0 fun i j => V.bl (decide (i ≤ j))) (.d (.int i)) (.d (.int j)) S (.bl true) := by have := @o_le K S i j; rwa [decide_eq_true h] at this
theorem o_ltT (h : i < j) : Op2 K (rI0 fun i j => V.bl (decide (i < j))) (.d (.int i)) (.d (.int j)) S (.bl true) := by have := @o_lt K S i j; rwa [decide_eq_true h] at this
theorem o_add : Op2 K (rI0 fun i j => V.int (i + j)) (.d (.int i)) (.d (.int j)) S (.int (i + j)) := op2_int0 fun B => .int _
theorem o_sub : Op2 K (rI0 fun i j => V.int (i - j)) (.d (.int i)) (.d (.int j)) S (.int (i - j)) := op2_int0 fun B => .int _
theorem o_mul (h : CMul i j) : Op2 K (rI CMul fun i j => V.int (i * j)) (.d (.int i)) (.d (.int j)) S (.int (i * j)) := op2_int h fun B => .int _
theorem o_mod (h : 0 < j) : Op2 K (rI (fun x j => 0 < j) fun i j => V.int (i % j)) (.d (.int i)) (.d (.int j)) S (.int (i % j)) := op2_int h fun B => .int _
theorem o_fdivW (h : CDivW i j) : Op2 K (rI CDivW fun i j => V.int (i / j)) (.d (.int i)) (.d (.int j)) S (.int (i / j)) := op2_int h fun B => .int _
theorem o_pow (h : CPow i j) : Op2 K (rI CPow fun i j => V.int (i ^ j.toNat)) (.d (.int i)) (.d (.int j)) S (.int (i ^ j.toNat)) := op2_int h fun B => .int _
theorem o_neg : Op1 K (rU fun i => V.int (-i)) (.d (.int i)) S (.int (-i)) := op1_int fun B => .int _
theorem cm_l (h1 : -(2 ^ 64) < i) (h2 : i < 2 ^ 64) : CMul i j := .inl ⟨h1, h2⟩
theorem cm_r (h1 : -(2 ^ 64) < j) (h2 : j < 2 ^ 64) : CMul i j := .inr ⟨h1, h2⟩
/-- ** of any base -/
def CPowW (i j : Int) : Prop := 0 ≤ j ∧ (Builtin.Int.intBits i : Int) * j ≤ 2 ^ 27
theorem op_powW {X : Cx} : OpR X (binaryOp .Pow) (rI CPowW fun i j => .int (i ^ j.toNat)) := opI fun i j t u A E s hc q => pow_int hc.1 hc.2 q
theorem o_powW (h : CPowW i j) : Op2 K (rI CPowW fun i j => V.int (i ^ j.toNat)) (.d (.int i)) (.d (.int j)) S (.int (i ^ j.toNat)) := op2_int h fun B => .int _
theorem en_mapA {α : Type} {xs : List α} {g : α → Dat} (h : α → Dat) {wi : TI} {tg : TG} {vs : List Nat} {G : List Addr → List Addr → List Dat → Prop} {is : List Nat} (hw : IterD K wi env S G (xs.map g) S1) (hz : xs.length ≤ sizeLine)
    (hG : ∀ as : List Addr, as.length = S1.length → G as as S1) (his : ∀ i ∈ is, i ∈ vs) (f : α → Env1 → Env1)
    (hs : ∀ (a : α), a ∈ xs → TgD K tg (g a) is (f a) ∧ Ev K te (f a (wipeE env vs)) S1 (.d (h a)) S1) : EvN K (tLc wi tg tYes te vs) env S (xs.map h) S1 := by
  refine en_lc (es := xs.map h) (S' := S1) hw (by rw [List.length_map]; exact hz) (fun i acc S' => acc = (xs.take i).map h ∧ S' = S1) ⟨by simp, rfl⟩ (fun i acc S' h as l1 l2 => by rw [h.2]; exact hG as l1) (fun i d acc S' hd hi => ?_) (fun acc S2 h => ?_)
  · obtain ⟨rfl, rfl⟩ := hi
    rw [List.getElem?_map, Option.map_eq_some_iff] at hd
    obtain ⟨a, ha, rfl⟩ := hd
    obtain ⟨tg, hev⟩ := hs a (List.mem_of_getElem? ha)
    exact ⟨is, f a, true, S', tg, his, et_yes, fun _ => ⟨_, _, hev, (map_take h ha).symm, rfl⟩, fun h => by cases h⟩
  · obtain ⟨rfl, rfl⟩ := h
    exact ⟨by rw [List.length_map, List.take_length], rfl⟩
theorem filter_take {α : Type} (T : α → Bool) {l : List α} {i : Nat} {x : α} (h : l[i]? = some x) : (l.take (i + 1)).filter T = (l.take i).filter T ++ (if T x = true then [x] else []) := by
  have hl := (List.getElem?_eq_some_iff.mp h).1
  have e : l[i] = x := (List.getElem?_eq_some_iff.mp h).2
  rw [List.take_succ_eq_append_getElem hl, e, List.filter_append]
  congr 1
  by_cases q : T x = true <;> simp [q]
theorem en_filterA {α : Type} {xs : List α} {g : α → Dat} (T : α → Bool) (h : α → Dat) {wi : TI} {tg : TG} {vs : List Nat} {G : List Addr → List Addr → List Dat → Prop} {is : List Nat} (hw : IterD K wi env S G (xs.map g) S1) (hz : xs.length ≤ sizeLine)
    (hG : ∀ as : List Addr, as.length = S1.length → G as as S1) (his : ∀ i ∈ is, i ∈ vs) (f : α → Env1 → Env1)
    (hs : ∀ (a : α), a ∈ xs → TgD K tg (g a) is (f a) ∧ EvT K tt (f a (wipeE env vs)) S1 (T a) S1 ∧ (T a = true → Ev K te (f a (wipeE env vs)) S1 (.d (h a)) S1)) : EvN K (tLc wi tg tt te vs) env S ((xs.filter T).map h) S1 := by
  refine en_lc (es := (xs.filter T).map h) (S' := S1) hw (by rw [List.length_map]; exact hz) (fun i acc S' => acc = ((xs.take i).filter T).map h ∧ S' = S1) ⟨by simp, rfl⟩ (fun i acc S' h as l1 l2 => by rw [h.2]; exact hG as l1) (fun i d acc S' hd hi => ?_) (fun acc S2 h => ?_)
  · obtain ⟨rfl, rfl⟩ := hi
    rw [List.getElem?_map, Option.map_eq_some_iff] at hd
    obtain ⟨a, ha, rfl⟩ := hd
    obtain ⟨tg, htt, hev⟩ := hs a (List.mem_of_getElem? ha)
    refine ⟨is, f a, T a, S', tg, his, htt, fun q => ⟨_, _, hev q, ?_, rfl⟩, fun q => ⟨?_, rfl⟩⟩
    · rw [filter_take T ha, if_pos q, List.map_append]; rfl
    · rw [filter_take T ha, if_neg (by simp [q]), List.append_nil]
  · obtain ⟨rfl, rfl⟩ := h
    exact ⟨by rw [List.length_map, List.take_length], rfl⟩
/-- with a state that goes along: the vat -/
theorem en_fold {α β : Type} {xs : List α} {g : α → Dat} {es : List β} (h : β → Dat) (Sf : Nat → List Dat) {wi : TI} {tg : TG} {vs : List Nat} {G : List Addr → List Addr → List Dat → Prop} {is : List Nat} (hw : IterD K wi env S G (xs.map g) (Sf 0)) (hz : xs.length ≤ sizeLine) (hl : es.length = xs.length)
    (hG : ∀ i (as : List Addr), as.length = (Sf i).length → G as as (Sf i)) (hSl : ∀ i, (Sf i).length = (Sf 0).length) (his : ∀ i ∈ is, i ∈ vs) (f : α → Env1 → Env1)
    (hs : ∀ (i : Nat) (a : α) (b : β), xs[i]? = some a → es[i]? = some b → TgD K tg (g a) is (f a) ∧ Ev K te (f a (wipeE env vs)) (Sf i) (.d (h b)) (Sf (i + 1))) : EvN K (tLc wi tg tYes te vs) env S (es.map h) (Sf xs.length) := by
  refine en_lc (es := es.map h) (S' := Sf xs.length) hw (by rw [List.length_map]; exact hz) (fun i acc S' => acc = (es.take i).map h ∧ S' = Sf i) ⟨by simp, rfl⟩ (fun i acc S' h as l1 l2 => by rw [h.2] at l2 ⊢; exact hG i as l2) (fun i d acc S' hd hi => ?_) (fun acc S2 h => ?_)
  · obtain ⟨rfl, rfl⟩ := hi
    rw [List.getElem?_map, Option.map_eq_some_iff] at hd
    obtain ⟨a, ha, rfl⟩ := hd
    have hlt : i < es.length := by rw [hl]; exact (List.getElem?_eq_some_iff.mp ha).1
    obtain ⟨tg, hev⟩ := hs i a es[i] ha (List.getElem?_eq_getElem hlt)
    exact ⟨is, f a, true, _, tg, his, et_yes, fun _ => ⟨_, _, hev, (map_take h (List.getElem?_eq_getElem hlt)).symm, rfl⟩, fun h => by cases h⟩
  · obtain ⟨rfl, rfl⟩ := h
    refine ⟨?_, by rw [List.length_map]⟩
    rw [List.length_map, List.take_of_length_le (by omega)]
theorem sp_forA {α : Type} {xs : List α} {g : α → Dat} {wi : TI} {tg : TG} {tb : TS} {G : List Addr → List Addr → List Dat → Prop} (hw : IterD K wi env S G (xs.map g) S1) (Inv : Nat → Env1 → List Dat → Prop) (h0 : Inv 0 env S1)
    (hG : ∀ i env' S' as as2, Inv i env' S' → as.length = S1.length → as2.length = S'.length → as2.take n = as.take n → G as as2 S')
    (hs : ∀ i a env' S', xs[i]? = some a → Inv i env' S' → ∃ is f, TgD K tg (g a) is f ∧ SP K n tb (f env') S' { P with nx := Inv (i + 1), ct := Inv (i + 1), bk := P.nx })
    (hd : ∀ env' S', Inv xs.length env' S' → P.nx env' S') : SP K n (tFor wi tg tb) env S P := by
  refine sp_for hw Inv h0 hG (fun i d env' S' hd hi => ?_) (fun env' S' h => hd env' S' (by rwa [List.length_map] at h))
  rw [List.getElem?_map, Option.map_eq_some_iff] at hd
  obtain ⟨a, ha, rfl⟩ := hd
  exact hs i a env' S' ha hi
theorem rng_map {lo : Int} {n : Nat} : rng lo n = (List.range n).map fun i => Dat.int (lo + (i : Nat)) := rfl
theorem zip_map {α β : Type} (f : α → Dat) (g : β → Dat) (u : List α) (v : List β) : zipD (u.map f) (v.map g) = (u.zip v).map fun p => Dat.tup [f p.1, g p.2] := by
  unfold zipD
  rw [List.zipWith_map]
  induction u generalizing v with
  | nil => rfl
  | cons x u ih => cases v with
    | nil => rfl
    | cons y v => simp [ih]
theorem enum_map {α : Type} (f : α → Dat) (u : List α) : enumD (u.map f) = u.zipIdx.map fun p => Dat.tup [.int (p.2 : Nat), f p.1] := by
  unfold enumD
  apply List.ext_getElem
  · simp
  · intro i h1 h2; simp
theorem WalkD.weak {J : It} {G G' : List Addr → List Dat → Prop} (w : WalkD K B J G ds) (h : ∀ as2 S2, G' as2 S2 → G as2 S2) : WalkD K B J G' ds :=
  ⟨fun B2 H2 as2 S2 i e c g hi => w.go B2 H2 as2 S2 i e c (h _ _ g) hi, fun B2 H2 as2 S2 i x H3 e c g hi y => w.yld B2 H2 as2 S2 i x H3 e c (h _ _ g) hi y, fun B2 H2 as2 S2 e c g => w.stop B2 H2 as2 S2 e c (h _ _ g)⟩
theorem IterD.weak {wi : TI} {G G' : List Addr → List Addr → List Dat → Prop} (w : IterD K wi env S G ds S1) (h : ∀ as as2 S2, G' as as2 S2 → G as as2 S2) : IterD K wi env S G' ds S1 := fun B H as σ c g R q =>
  w B H as σ c g R fun J B1 H1 c1 e1 w1 => q J B1 H1 c1 e1 (w1.weak (h as))
theorem it_zipA {α β : Type} {u : List α} {v : List β} {f : α → Dat} {g : β → Dat} {x y : Dat} (h : EvA K tA env S [.d x, .d y] S1) (hx : Seq S1 (.d x) (u.map f)) (hy : Seq S1 (.d y) (v.map g)) : IterD K (iZipG K tA) env S G0 ((u.zip v).map fun p => Dat.tup [f p.1, g p.2]) S1 := by
  rw [← zip_map]; exact (it_zip h hx hy).weak fun _ _ _ _ => ⟨trivial, trivial⟩
theorem it_enumA {α : Type} {u : List α} {f : α → Dat} {x : Dat} (h : EvA K tA env S [.d x] S1) (hx : Seq S1 (.d x) (u.map f)) : IterD K (iEnumG K tA) env S G0 (u.zipIdx.map fun p => Dat.tup [.int (p.2 : Nat), f p.1]) S1 := by
  rw [← enum_map]; exact (it_enum h hx).weak fun _ _ _ _ => trivial
/-- return a new list that was just made -/
def SpN (K : PySem.W.Frag) (G : List Sl → List Dat → List Dat → List Dat → Prop) : Sp := fun vs H Q _ => ∃ B as S ss r S', Ok K B H as S ∧ RepSs K B as vs ss ∧ G ss S r S' ∧
  ∀ p B' H' ws, Ok K B' H' as S' → Evo B H as B' H' → Fresh H as p → B' p = none → H' p = some (.lst ws) → Reps K B' ws r → Q (.ref p) H'
theorem en_call {G : List Sl → List Dat → List Dat → List Dat → Prop} {ss : List Sl} {E : XK} (h : EvA K tA env S ss S1) (hg : G ss S1 ds S2) : EvN K (tCall (SpN K G) [] E tA) env S ds S2 := fun B H as σ c g Q q =>
  h B H as σ c g _ fun vs B1 H1 c1 e1 r1 => ⟨B1, as, S1, ss, ds, S2, c1, by rw [List.append_nil]; exact r1, hg, fun p B2 H2 ws c2 e2 hp hb hl r2 => q p B2 H2 ws c2 (e1.trans e2) ⟨hp.1, e1.oldN hp.2⟩ hb hl r2⟩
theorem spn_len {G : List Sl → List Dat → List Dat → List Dat → Prop} {k : Nat} (h : ∀ ss S r S', G ss S r S' → ss.length = k) : ∀ vs H Q E, SpN K G vs H Q E → vs.length = k := fun vs H Q E q => by
  obtain ⟨B, as, S, ss, r, S', c, rs, g, _⟩ := q
  rw [rs.length]
  exact h ss S r S' g
/-- isinstance told as a fact of the data -/
theorem cd_sortedI {ns ns' : List Int} (h : SeqL S x (ns.map Dat.int)) (hp : ns.Perm ns') (hs : ns'.Pairwise (· ≤ ·)) : CallD K (rSortedI K) [x] S (.lst (ns'.map Dat.int)) S := fun B H as vs c r Q q => by
  cases r with
  | cons r1 rr =>
    cases rr
    obtain ⟨a, ws, rfl, hq, hr⟩ := h.read c r1
    rw [hr.ints] at hq
    refine ⟨a, ns, rfl, Evl.sq_of hq, fun ms p h1 h2 hpn => ?_⟩
    have e : ms = ns' := (h1.trans hp).eq_of_pairwise (fun a b _ _ h1 h2 => Int.le_antisymm h1 h2) h2 hs
    subst e
    have rr : ∀ ms : List Int, Reps K (upd B p (.lst (ms.map V.int))) (ms.map V.int) (ms.map Dat.int) := fun ms => by
      have : ∀ (ks : List Int) (B : Hp), Reps K B (ks.map V.int) (ks.map Dat.int) := fun ks B => by
        induction ks with
        | nil => exact .nil
        | cons k ks ih => exact .cons (.int k) ih
      exact this ms _
    exact q _ (upd B p (.lst (ms.map V.int))) _ (c.new hpn) (Evo.new c hpn) (.lst upd_same (rr ms))
theorem ix_seqK {X : Cx} (K : PySem.W.Frag) (h : X.K = K := by rfl) : IxR X (rIx K) := h ▸ ix_seq
theorem pi_seqK {X : Cx} (K : PySem.W.Frag) {tg l : Expr} {tl : TE} (hl : PE X l tl) (h : X.K = K := by rfl) : PI X tg l (iSeq K tl) := h ▸ pi_seq hl
theorem pt_truK {X : Cx} (K : PySem.W.Frag) {e : Expr} {ta : TE} (ha : PE X e ta) (h : X.K = K := by rfl) (he : ∀ whole, isTrue e X.env whole = (do let v ← whole; standAt e.pos; holding [v] (truthy v)) := by intro _; rfl) : PT X e (tTru K ta) := h ▸ pt_tru ha he
theorem call_lenK {X : Cx} (K : PySem.W.Frag) (h : X.K = K := by rfl) : CallR X (.builtin "len") (rLenD K) := h ▸ call_lenD
theorem call_tupK {X : Cx} (K : PySem.W.Frag) (hc : X.calm = true) (h : X.K = K := by rfl) : CallR X (.type "tuple") (rTupD K) := h ▸ call_tupD hc
end
end RW

set_option Elab.async false
set_option linter.all false
set_option maxRecDepth 100000
set_option maxHeartbeats 4000000
namespace RW
open PySem PySem.Spec PyProof.Rows L2
open Evl (Ex)
section
variable {K : PySem.W.Frag} {n : Nat} {te ta tb tc to ti tv : TE} {tt tu : TT} {tA tR : TA} {env env' : Env1} {S S1 S2 S3 : List Dat} {x y z : Sl} {d e : Dat} {ds es : List Dat} {r r' : R2} {P P' : Post} {t u : TS}
  {B B0 B1 B2 B' H H0 H1 H2 H' : Hp} {as as0 as1 : List Addr} {D : Ends} {σ : L2.St} {j k : Nat} {a b c : Bool}
theorem Evo.kept {p : Addr} {o : HO} (e : Evo B1 H1 as B2 H2) (hp : p ∉ as) (h1 : H1 p = some o) (hb : B1 p = none) (ht : ∀ xs, o ≠ .tup xs := by exact fun _ z => nomatch z) (hc : ∀ a q, o ≠ LamX.CodeO a q := by (intro _ _ z; unfold LamX.CodeO at z; cases z)) (hn : ∀ ps, o ≠ .tbl ps := by exact fun _ z => nomatch z) : H2 p = some o ∧ B2 p = none :=
  have h3 := e.fr p o hp h1 hn
  ⟨h3, by
    rcases e.gr p o h1 hn with z | ⟨o', fo, z⟩
    · exact z.trans hb
    · rw [h3] at z; cases z; exact (fo.elim (fun ⟨ys, z⟩ => ht ys z) fun ⟨b, r, z⟩ => hc b r z).elim⟩
/-- (xs, y) with xs a new list that will be changed -/
theorem sp_pairC (h : EvN K ta env S ds S1) (hv : Ev K tb env S1 y S2) (q : SP K n u ((env.set j (some (.c S2.length))).set k (some y)) (S2 ++ [.lst ds]) P) :
    SP K n (tSeq (tAsg (tTup (tCons ta (tCons tb tNil))) (gTup K 2 (gCons (gName j) (gCons (gName k) gNil)))) u) env S P := fun B0 H0 as0 Bk B H as σ hl f c g D m =>
  h B H as σ c g _ fun p B1 H1 vs c1 e1 hp hb h1 r1 => hv B1 H1 as σ c1 (g.mono e1.ex) _ fun w B2 H2 c2 e2 r2 => ⟨by show 2 ≤ sizeLine; decide, fun t ht => by
    have hpa : p ∉ as := hp.1
    obtain ⟨k1, k2⟩ := e2.kept hpa h1 hb
    have c3 := c2.new (o := .tup [.ref p, w]) ht
    have e3 := Evo.new (o := .tup [.ref p, w]) c2 ht
    have e03 := (e1.trans e2).trans e3
    have npt : p ≠ t := by rintro rfl; rw [ht] at k1; cases k1
    refine ⟨t, _, rfl, Evl.st_of upd_same, rfl, _, _, rfl, _, _, rfl, rfl, ?_⟩
    refine q B0 H0 as0 Bk _ _ (as ++ [p]) _ hl ((f.step e03).push (f.evo.oldN hp.2)) (c3.push (by rw [upd_ne npt]; exact k2) hpa (.ofL (by rw [upd_ne npt]; exact k1) ((r1.mono e2.ex).mono e3.ex))) ((((g.mono e03.ex).grow).set (s := .c S2.length) j ?_).set k ((r2.mono e3.ex).grow)) D m
    exact ⟨p, by rw [← c2.len]; simp, rfl⟩⟩
/-- both new lists -/
theorem sp_pairCC (h : EvN K ta env S ds S1) (hv : EvN K tb env S1 es S2) (q : SP K n u ((env.set j (some (.c S2.length))).set k (some (.c (S2.length + 1)))) (S2 ++ [.lst ds] ++ [.lst es]) P) :
    SP K n (tSeq (tAsg (tTup (tCons ta (tCons tb tNil))) (gTup K 2 (gCons (gName j) (gCons (gName k) gNil)))) u) env S P := fun B0 H0 as0 Bk B H as σ hl f c g D m =>
  h B H as σ c g _ fun p B1 H1 vs c1 e1 hp hb h1 r1 => hv B1 H1 as σ c1 (g.mono e1.ex) _ fun p2 B2 H2 ws c2 e2 hp2 hb2 h2 r2 => ⟨by show 2 ≤ sizeLine; decide, fun t ht => by
    have hpa : p ∉ as := hp.1
    have hpa2 : p2 ∉ as := hp2.1
    have hpp : p ≠ p2 := by rintro rfl; exact hp2.2.no h1 (fun _ z => nomatch z)
    obtain ⟨k1, k2⟩ := e2.kept hpa h1 hb
    have c3 := c2.new (o := .tup [.ref p, .ref p2]) ht
    have e3 := Evo.new (o := .tup [.ref p, .ref p2]) c2 ht
    have e03 := (e1.trans e2).trans e3
    have npt : p ≠ t := by rintro rfl; rw [ht] at k1; cases k1
    have npt2 : p2 ≠ t := by rintro rfl; rw [ht] at h2; cases h2
    refine ⟨t, _, rfl, Evl.st_of upd_same, rfl, _, _, rfl, _, _, rfl, rfl, ?_⟩
    have c4 := c3.push (p := p) (by rw [upd_ne npt]; exact k2) hpa (.ofL (by rw [upd_ne npt]; exact k1) ((r1.mono e2.ex).mono e3.ex))
    have c5 := c4.push (p := p2) (by rw [upd_ne npt2]; exact hb2) (by simp [hpa2, hpp.symm]) (.ofL (by rw [upd_ne npt2]; exact h2) (r2.mono e3.ex))
    have f4 := (f.step e03).push (f.evo.oldN hp.2)
    refine q B0 H0 as0 Bk _ _ (as ++ [p] ++ [p2]) _ hl (f4.push (f.evo.oldN (e1.oldN hp2.2))) c5 ((((g.mono e03.ex).grow).grow.set (s := .c S2.length) j ?_).set (s := .c (S2.length + 1)) k ?_) D m
    · exact ⟨p, by rw [← c2.len]; simp, rfl⟩
    · exact ⟨p2, by rw [← c2.len]; simp, rfl⟩⟩
end
end RW
namespace RW
open PySem PySem.Spec PyProof.Rows L2
section
variable {K : PySem.W.Frag} {te : TE} {tA : TA} {env : Env1} {S S1 S1' : List Dat} {r : Sl} {rs : List Sl} {ds : List Dat}
theorem Ev.toS (h : Ev K te env S r S1) (e : S1 = S1') : Ev K te env S r S1' := e ▸ h
theorem EvN.toS (h : EvN K te env S ds S1) (e : S1 = S1') : EvN K te env S ds S1' := e ▸ h
theorem EvA.toS (h : EvA K tA env S rs S1) (e : S1 = S1') : EvA K tA env S rs S1' := e ▸ h
theorem it_rangeN {m : Nat} (h : EvA K tA env S [.d (.int m)] S1) (hm : m ≤ 1000) : IterD K (iRng1 tA) env S G0 ((List.range m).map fun i => Dat.int (0 + (i : Nat))) S1 := by
  have := it_range1 h ⟨by omega, by omega⟩
  rwa [Int.toNat_natCast, rng_map] at this
end
end RW

set_option Elab.async false
set_option linter.all false
set_option maxRecDepth 100000
set_option maxHeartbeats 4000000
namespace RwT
open PySem PySem.Spec PyProof.Rows L2
theorem tuple_mul1 (l : Addr) (items : Array Value) (n : Nat) (dd : Option Addr) (sl : Array (Option Value)) (u : Tok) :
    Meets (Builtin.«tuple.__mul__» ⟨[.ref l, .int 1 u], []⟩) (fun _ R s => s.heap.get? l = some { cls := .type "tuple", dict := dd, data := .seq items n, slots := sl } ∧
      R (.ok (.ret (Value.ref l))) s) :=
  .of_wp fun prog w A R s h => by
    obtain ⟨hp, g, d, tk, os⟩ := s
    obtain ⟨hl, h⟩ := h
    have f1 := AutoSeq1.idx_int
    wp_walk using wpAny_loadPart' hl
    repeat (first
      | (refine wpAny_ite_false (decide_eq_false (by decide)) ?_; wp_walk using wpAny_loadPart' hl)
      | (refine wpAny_ite_true (by simp) ?_; wp_walk using wpAny_loadPart' hl))
    exact ⟨_, rfl, h⟩
/-- tuple * n, n from 1 on -/
def rRepA (K : PySem.W.Frag) : R2 := fun x y H Q => ∃ l k xs, x = .ref l ∧ y = .int k ∧ SqT K H l xs ∧ xs ≠ [] ∧ 1 ≤ k ∧ k ≤ 1000 ∧ xs.length ≤ 1000 ∧ (k = 1 → Q (.ref l) H) ∧ (2 ≤ k → ∀ p, H p = none → Q (.ref p) (upd H p (.tup (List.replicate k.toNat xs).flatten)))
theorem op_repA {X : Cx} : OpR X (binaryOp .Mult) (rRepA X.K) := by
  intro pins s σ H x y v u Q I rx ry h
  obtain ⟨l, k, xs, rfl, rfl, hT, hne, h1, h2, hz, q1, q2⟩ := h
  by_cases hk : 2 ≤ k
  · exact op_repT pins s σ H _ _ v u Q I rx ry ⟨l, k, xs, rfl, rfl, hT, hne, hk, h2, hz, q2 hk⟩
  obtain rfl : k = 1 := by omega
  cases rx
  obtain ⟨t, rfl⟩ := ry
  obtain ⟨its, r, ⟨⟨cls, dd, data, sl⟩, ho, hc, n, hd⟩, hs⟩ := I.tuple hT
  simp only at hc hd
  subst hc hd
  refine wpAny_binaryOp_repeat_ref (T := "tuple") (U := "int") (by decide) ⟨_, ho, rfl⟩ (fun s' => typeIs_int s' 1 t) noFill_tuple_mul F.fills_int_mul F.slot_int_rmul repeat_tuple F.slot_int_index.lookup
    (call_meets F.slot_int_rmul (typeIs_int s 1 t) F.entry_int_rmul (F.args_int_rmul_2 _ _) (int_rmul_tuple 1 t l its.toArray n dd sl)
      ⟨ho, rfl, ⟨_, ho, rfl⟩, call_meets F.slot_tuple_mul ⟨_, ho, rfl⟩ F.entry_tuple_mul (F.args_tuple_mul_2 _ _) (tuple_mul1 l its.toArray n dd sl t) ⟨ho, ?_⟩⟩)
  exact ⟨.ref l, _, I, rfl, q1 rfl⟩
end RwT
namespace RW
open PySem PySem.Spec PyProof.Rows L2
theorem o_repA {K : PySem.W.Frag} {S : List Dat} {ds : List Dat} {k : Int} (hne : ds ≠ []) (h1 : 1 ≤ k) (h2 : k ≤ 1000) (hz : ds.length ≤ 1000) : Op2 K (RwT.rRepA K) (.d (.tup ds)) (.d (.int k)) S (.tup (List.replicate k.toNat ds).flatten) := fun B H as v w c r1 r2 Q q => by
  cases r2
  cases r1 with
  | tup h1' rr =>
    refine ⟨_, _, _, rfl, rfl, Evl.ex_t c.ex h1', fun e => hne ((reps_ne rr).mp e), h1, h2, by rw [rr.length]; exact hz, fun e => ?_, fun _ p hp => ?_⟩
    · subst e
      have : (List.replicate (1 : Int).toNat ds).flatten = ds := by simp
      rw [this] at q
      exact q _ B H c Evo.refl (.tup h1' rr)
    · exact q _ (upd B p _) _ (c.new hp) (Evo.new c hp) (.tup (Evl.st_of upd_same) ((reps_rep rr _).mono (Evl.Ex.new (c.Bnone hp))))
end RW

set_option Elab.async false
set_option linter.all false
set_option maxRecDepth 100000
set_option maxHeartbeats 4000000
namespace RW
open PySem PySem.Spec PyProof.Rows L2
open Evl (Ex)
theorem it_down {K : PySem.W.Frag} {tA : TA} {env : Env1} {S S1 : List Dat} {m : Nat} (h : EvA K tA env S [.d (.int ((m : Int) - 1)), .d (.int (-1)), .d (.int (-1))] S1) (hm : m ≤ 1000) : IterD K (iRng3 tA) env S G0 (rngR 0 m) S1 := fun B H as σ c g R q =>
  h B H as σ c g _ fun vs B1 H1 c1 e1 r1 => by
    cases r1 with
    | cons r1 rr =>
      cases rr with
      | cons r2 rr =>
        cases rr with
        | cons r3 rr =>
          cases rr
          cases r1; cases r2; cases r3
          have hc : RgC ((m : Int) - 1) (-1) (-1) m := by
            have := RgC.neg (i := (m : Int) - 1) (j := -1) (by omega) (by omega) (by omega) (by omega)
            rwa [show ((m : Int) - 1 - -1).toNat = m by omega] at this
          have hw : WalkD K B1 (Itc (0 + (m : Int) - 1) (-1) m) (G0 as) (rngR 0 m) := walk_rngR
          rw [show (0 : Int) + (m : Int) - 1 = (m : Int) - 1 by omega] at hw
          exact ⟨_, _, _, m, rfl, hc, q _ B1 H1 c1 e1 hw⟩
end RW

set_option Elab.async false
set_option linter.all false
set_option maxRecDepth 100000
set_option maxHeartbeats 4000000
namespace RW
open PySem PySem.Spec PyProof.Rows L2
open Evl (Ex)
/-! ### x is True, x is False: whatever x is -/
def rIsX (neg : Bool) : R2 := fun x y H Q => ∃ b : Bool, y = .bl b ∧ Q (.bl (neg != decide (x = .bl b))) H
theorem plainIs_bl {x : V} {v : Value} {b : Bool} (r : RelV x v) : plainIs v (.bool b) = true ∧ (v == Value.bool b) = decide (x = .bl b) := by
  cases x with
  | bl c =>
    cases (show v = Value.bool c from r)
    refine ⟨rfl, ?_⟩
    by_cases e : c = b
    · subst e; simp
    · have h1 : ¬ (V.bl c = V.bl b) := fun z => e (V.bl.inj z)
      rw [decide_eq_false h1]
      exact beq_eq_false_iff_ne.mpr fun z => e (Value.bool.inj z)
  | non => cases (show v = Value.none from r); exact ⟨rfl, by rw [decide_eq_false (fun z => nomatch z)]; exact beq_eq_false_iff_ne.mpr fun z => nomatch z⟩
  | int i => obtain ⟨t, rfl⟩ := r; exact ⟨rfl, by rw [decide_eq_false (fun z => nomatch z)]; exact beq_eq_false_iff_ne.mpr fun z => nomatch z⟩
  | str i => obtain ⟨t, rfl⟩ := r; exact ⟨rfl, by rw [decide_eq_false (fun z => nomatch z)]; exact beq_eq_false_iff_ne.mpr fun z => nomatch z⟩
  | byt i => obtain ⟨t, rfl⟩ := r; exact ⟨rfl, by rw [decide_eq_false (fun z => nomatch z)]; exact beq_eq_false_iff_ne.mpr fun z => nomatch z⟩
  | flt i => obtain ⟨t, rfl⟩ := r; exact ⟨rfl, by rw [decide_eq_false (fun z => nomatch z)]; exact beq_eq_false_iff_ne.mpr fun z => nomatch z⟩
  | ref a => cases (show v = Value.ref a from r); exact ⟨rfl, by rw [decide_eq_false (fun z => nomatch z)]; exact beq_eq_false_iff_ne.mpr fun z => nomatch z⟩
  | ty n => cases (show v = Value.type n from r); exact ⟨rfl, by rw [decide_eq_false (fun z => nomatch z)]; exact beq_eq_false_iff_ne.mpr fun z => nomatch z⟩
theorem op_isX {X : Cx} : OpR X (compareOp .Is) (rIsX false) := by
  intro pins s σ H x y v u Q I rx ry h
  obtain ⟨b, rfl, q⟩ := h
  cases (show u = Value.bool b from ry)
  obtain ⟨h1, h2⟩ := plainIs_bl (b := b) rx
  refine wpAny_is_plain h1 ⟨.bl (decide (x = .bl b)), H, I, ?_, by simpa using q⟩
  rw [h2]; rfl
theorem op_notX {X : Cx} : OpR X (compareOp .IsNot) (rIsX true) := by
  intro pins s σ H x y v u Q I rx ry h
  obtain ⟨b, rfl, q⟩ := h
  cases (show u = Value.bool b from ry)
  obtain ⟨h1, h2⟩ := plainIs_bl (b := b) rx
  refine wpAny_isNot_plain h1 ⟨.bl (!decide (x = .bl b)), H, I, ?_, by simpa using q⟩
  rw [h2]; rfl
section
variable {K : PySem.W.Frag} {S : List Dat} {i : Int} {b c : Bool} {neg : Bool}
theorem o_isX_int : Op2 K (rIsX neg) (.d (.int i)) (.d (.bl b)) S (.bl neg) := fun B H as v w k h1 h2 Q q => by
  cases h1; cases h2
  refine ⟨b, rfl, ?_⟩
  have e : (neg != decide (V.int i = V.bl b)) = neg := by cases neg <;> rfl
  rw [e]
  exact q _ B H k Evo.refl (.bl _)
end
end RW

set_option Elab.async false
set_option linter.all false
set_option maxRecDepth 100000
set_option maxHeartbeats 4000000
namespace RwT
open PySem PySem.Spec PyProof.Rows L2
section
variable {prog : Program} {w : World} {A : Around} {E : Value → Shared → Prop} {s : Shared} {K : PySem.W.Frag} {x y C f : Addr} {ox oy : Obj} {od od' : Option Obj}
theorem entry_ne (hu : A.units < cLine) (X : K.In s.heap) (I : PySem.W.InstAt s.heap x ox C od) (hs : PySem.W.findIn K (.ref C) "__eq__" = some (some (.ref f))) (hf : PySem.W.isFn K (.ref f) = true) {Q : Fin → Shared → Prop}
    (hcall : wpAny (model prog w) A (call (.ref f) [.ref x, .ref y]) (fun v s' => ∃ b, v = .bool b ∧ Q (.done (.ret (.bool (!b)))) s') E s) :
    wpAny (model prog w) A (Builtin.«object.__ne__» ⟨[.ref x, .ref y], []⟩) Q E s := by
  unfold Builtin.«object.__ne__»
  repeat (first
    | with_reducible refine wpAny_cRoomFor hu ?_
    | (refine wpAny_bind (m := callSpecialIfBound? (.ref x) (Str.ofString "__eq__") [.ref y])
        (PySem.W.ifBound_K X I hs hf (wpAny_mono hcall (fun r s' hr => by
          obtain ⟨b, rfl, hq⟩ := hr
          repeat (first | exact hq | exact wpAny_pure hq | exact wpAny_truthy_bool hq | (refine wpAny_bind (m := truthy (.bool _)) (wpAny_truthy_bool ?_)) | wp_step)) fun _ _ e => e)))
    | wp_step)
theorem ifBound_objNe {M : Model} {args : List Value} {Q : Option Value → Shared → Prop} (X : K.In s.heap) (I : PySem.W.InstAt s.heap x ox C od) (hs : PySem.W.findIn K (.ref C) "__ne__" = some (some (.builtin "object.__ne__")))
    (h : wpAny M A (call (.builtin "object.__ne__") (.ref x :: args)) (fun v => Q (some v)) E s) : wpAny M A (callSpecialIfBound? (.ref x) "__ne__" args) Q E s := by
  simp only [callSpecialIfBound?, bindSpecialIfBound?]
  refine wpAny_holding (wpAny_bind (wpAny_bind (wpAny_bind (I.type.here ((PySem.W.looks_findIn X hs).here ?_)))))
  refine wpAny_bind (wpAny_askSetting (wpAny_ite ?_))
  have fin : wpAny M A (call (.builtin "object.__ne__") ([.ref x] ++ args) >>= fun v => pure (some v)) Q E s := wpAny_bind (wpAny_mono h (fun v s' h' => wpAny_pure h') fun _ _ h' => h')
  split
  · exact wpAny_bind (wpAny_of_eq (F.cmp_object.ne.bind _) (wpAny_pure (by exact fin)))
  · exact wpAny_tryCatch (wpAny_bind (wpAny_of_eq (F.cmp_object.ne.bind _) (wpAny_pure (by exact fin))))
theorem rich_ne (hu : A.units + 1 < cLine) (X : K.In s.heap) (I : PySem.W.InstAt s.heap x ox C od) (I' : PySem.W.InstAt s.heap y oy C od') (hm : PySem.W.mroIn K C (.type "object") = some true)
    (hn : PySem.W.findIn K (.ref C) "__ne__" = some (some (.builtin "object.__ne__"))) (hs : PySem.W.findIn K (.ref C) "__eq__" = some (some (.ref f))) (hf : PySem.W.isFn K (.ref f) = true) {Q : Value → Shared → Prop}
    (hcall : wpAny (model prog w) A.in1 (call (.ref f) [.ref x, .ref y]) (fun v s' => ∃ b, v = .bool b ∧ Q (.bool (!b)) s') E s) :
    wpAny (model prog w) A (richCompare .NotEq (.ref x) (.ref y)) Q E s := by
  have one : wpAny (model prog w) A (tryCompare (.ref x) "__ne__" (.ref y)) (fun r s' => ∃ b, r = some (Value.bool b) ∧ Q (.bool b) s') E s := by
    unfold tryCompare
    refine wpAny_bind (ifBound_objNe X I hn (wpAny_call (codeAny_call_builtin F.cmp_object.ne.plain F.cmpEntry_ne (PySem.W.check_slot F.cmpKind_ne F.cmpSplit_ne (I.type.andThen (PySem.W.looks_mroIn X hm)) (F.cmpArgs_ne _ _)
      (entry_ne (A := A.in1) hu X I hs hf (wpAny_mono hcall (fun v s' hv => ?_) fun _ _ e => e))))))
    obtain ⟨b, rfl, hq⟩ := hv
    first | exact ⟨b, rfl, wpAny_pure ⟨_, rfl, hq⟩⟩ | exact ⟨b, rfl, wpAny_pure (wpAny_pure ⟨_, rfl, hq⟩)⟩
  unfold richCompare
  simp only [oneThing_ref]
  refine wpAny_holding (wpAny_bind (wpAny_cRoomFor (Nat.lt_of_succ_lt hu) ?_))
  rw [cmpInfo_NotEq]
  dsimp only
  refine wpAny_bind (I.type.here (wpAny_bind (I'.type.here ?_)))
  rw [show (Value.ref C != Value.ref C) = false from by simp]
  simp only [Bool.false_eq_true, if_false]
  refine wpAny_bind (wpAny_pure ?_)
  simp only [Bool.false_eq_true, if_false]
  refine wpAny_bind (wpAny_mono one (fun v s' hv => ?_) fun _ _ e => e)
  obtain ⟨b, rfl, hq⟩ := hv
  first | exact wpAny_pure hq | exact wpAny_pure (wpAny_pure hq)
end
/-- what is known of a class with an own == -/
structure OwnC (K : PySem.W.Frag) (C f : Addr) : Prop where
  eq : PySem.W.findIn K (.ref C) "__eq__" = some (some (.ref f))
  fn : PySem.W.isFn K (.ref f) = true
  ne : PySem.W.findIn K (.ref C) "__ne__" = some (some (.builtin "object.__ne__"))
  ob : PySem.W.mroIn K C (.type "object") = some true
  sub : PySem.W.notFirst K C (.ref C) = true
def rOwn (C : Addr) (sp : Sp) (E : XK) (neg : Bool) : R2 := fun x y H Q => ∃ a b dx dy fs gs, x = .ref a ∧ y = .ref b ∧ H a = some (.ins C dx fs) ∧ H b = some (.ins C dy gs) ∧ sp [.ref a, .ref b] H (fun v H' => ∃ k, v = .bl k ∧ Q (.bl (neg != k)) H') E
section
variable {X : Cx} {CX : CXT} {n : Nat} {C f : Addr} {fd : FuncData} {ps : List Str} {sp : Sp} {E : XK}
theorem call_own {A : Around} (hr : Room n A) (hA : A.frames = X.A.frames) (F : FnOk X.prog X.w X.K X.mg X.base CX n f fd ps sp) (hb : L2.Binds X.K fd ps []) (hx : Passes CX X E) {pins : List (Addr × Obj)} {σ : L2.St} {H : Hp} {s : Shared} (I : Inv X pins σ H s) {a b : Addr} {Q : VK} (h : sp [.ref a, .ref b] H Q E) :
    wpAny (model X.prog X.w) A (call (.ref f) [.ref a, .ref b]) (EP X pins σ Q) X.xe s := by
  have e0 : Env0 X.prog X.w X.K X.mg X.base A X.stack s H := by
    have e := I.env0
    exact ⟨by rw [hA]; exact e.frames, e.mod, e.bs, e.bsz, e.funs, e.frf, e.hok, e.bare⟩
  have hl := F.len _ _ _ _ h
  have r2 : Vals [V.ref a, V.ref b] [Value.ref a, Value.ref b] := .cons rfl (.cons rfl .nil)
  refine wpAny_call (codeAny_mono (F.run A X.stack s H ⟨[.ref a, .ref b], []⟩ [.ref a, .ref b] [.ref a, .ref b] _ E hr e0 (by
    have := hb s [.ref a, .ref b] I.kIn (by simpa using hl)
    simpa using this) r2 h) fun r s' hq => ?_)
  cases r with
  | error e => exact hx pins σ H s e s' I hq
  | ok fl =>
    cases fl with
    | ret w => exact I.after hq
    | next => exact False.elim hq
    | brk => exact False.elim hq
    | cont => exact False.elim hq
theorem op_ownEq (O : OwnC X.K C f) (hr : Room n X.A) (F : FnOk X.prog X.w X.K X.mg X.base CX n f fd ps sp) (hb : L2.Binds X.K fd ps []) (hx : Passes CX X E) : OpR X (compareOp .Eq) (rOwn C sp E false) := by
  intro pins s σ H x y v u Q I rx ry h
  obtain ⟨a, b, dx, dy, fs, gs, rfl, rfl, ha, hb', hp⟩ := h
  cases rx
  cases ry
  obtain ⟨mA, J, _⟩ := ins_get I.hok ha
  obtain ⟨mB, J', _⟩ := ins_get I.hok hb'
  obtain ⟨od, J, _⟩ := J.look
  obtain ⟨od', J', _⟩ := J'.look
  obtain ⟨m, hF⟩ := I.fr
  show wpAny (model X.prog X.w) X.A (richCompare .Eq (.ref a) (.ref b)) (EP X pins σ Q) X.xe s
  refine PySem.W.cmp_K (op := .Eq) (tb := .ref C) hr.units0 hF I.ok.mod.kin J J'.type O.sub O.eq O.fn ?_
  refine wpAny_mono (call_own hr rfl F hb hx I hp) (fun r s' q => ?_) fun _ _ x => x
  obtain ⟨z, H', I', rz, k, ez, q⟩ := q
  subst ez
  cases rz
  exact ⟨.bl k, H', I', rfl, by simpa using q⟩
theorem op_ownNe (O : OwnC X.K C f) (hr : Room (n + 1) X.A) (F : FnOk X.prog X.w X.K X.mg X.base CX n f fd ps sp) (hb : L2.Binds X.K fd ps []) (hx : Passes CX X E) : OpR X (compareOp .NotEq) (rOwn C sp E true) := by
  intro pins s σ H x y v u Q I rx ry h
  obtain ⟨a, b, dx, dy, fs, gs, rfl, rfl, ha, hb', hp⟩ := h
  cases rx
  cases ry
  obtain ⟨mA, J, _⟩ := ins_get I.hok ha
  obtain ⟨mB, J', _⟩ := ins_get I.hok hb'
  obtain ⟨od, J, _⟩ := J.look
  obtain ⟨od', J', _⟩ := J'.look
  show wpAny (model X.prog X.w) X.A (richCompare .NotEq (.ref a) (.ref b)) (EP X pins σ Q) X.xe s
  refine rich_ne (by have := hr.un; omega) I.kIn J J' O.ob O.ne O.eq O.fn ?_
  refine wpAny_mono (call_own hr.in1 rfl F hb hx I hp) (fun r s' q => ?_) fun _ _ x => x
  obtain ⟨z, H', I', rz, k, ez, q⟩ := q
  subst ez
  cases rz
  exact ⟨k, rfl, .bl (!k), H', I', rfl, by simpa using q⟩
end
end RwT
namespace RW
open PySem PySem.Spec PyProof.Rows L2
theorem o_own {K : PySem.W.Frag} {C : Addr} {G : List Sl → List Dat → Dat → List Dat → Prop} {E : XK} {neg k : Bool} {S : List Dat} {fs gs : List (Str × Dat)} (hg : G [.d (.ins C fs), .d (.ins C gs)] S (.bl k) S) :
    Op2 K (RwT.rOwn C (SpD K G) E neg) (.d (.ins C fs)) (.d (.ins C gs)) S (.bl (neg != k)) := fun B H as v w c r1 r2 Q q => by
  cases r1 with
  | ins h1 q1 =>
    cases r2 with
    | ins h2 q2 =>
      refine ⟨_, _, _, _, _, _, rfl, rfl, c.ex _ _ h1, c.ex _ _ h2, B, as, S, [.d (.ins C fs), .d (.ins C gs)], _, S, c, .cons (Rep.ins h1 q1 : Rep K B _ (.ins C fs)) (.cons (Rep.ins h2 q2 : Rep K B _ (.ins C gs)) .nil), hg, fun v B' H' c' e' r' => ?_⟩
      cases r'
      exact ⟨k, rfl, q _ B' H' c' e' (.bl _)⟩
end RW

set_option Elab.async false
set_option linter.all false
set_option maxRecDepth 100000
set_option maxHeartbeats 4000000
namespace RW
open PySem PySem.Spec PyProof.Rows L2
section
variable {K : PySem.W.Frag} {te ta tb to : TE} {tA : TA} {env : Env1} {S S1 S2 : List Dat} {x y : Sl} {a b acc out : Str} {ts : List TE} {i : Int}
/-! ### texts -/
theorem ev_fmtS (h : Ev K te env S (.d (.str a)) S1) (hl : a.length ≤ sizeLine) : Ev K (tFmt te) env S (.d (.str a)) S1 := fun B H as σ c g Q q =>
  h B H as σ c g _ fun v B1 H1 c1 e1 r1 => by
    cases r1
    exact .inl ⟨a, rfl, hl, q _ B1 H1 c1 e1 (.str a)⟩
theorem ev_fmtI (h : Ev K te env S (.d (.int i)) S1) (hl : i.natAbs.log2 < 1920) : Ev K (tFmt te) env S (.d (.str (Str.ofString (toString i)))) S1 := fun B H as σ c g Q q =>
  h B H as σ c g _ fun v B1 H1 c1 e1 r1 => by
    cases r1
    exact .inr ⟨i, rfl, hl, q _ B1 H1 c1 e1 (.str _)⟩
/-- the parts of an f-string, behind acc -/
def EvJ (K : PySem.W.Frag) (ts : List TE) (env : Env1) (S : List Dat) (acc out : Str) (S' : List Dat) : Prop :=
  ∀ B H as σ, Ok K B H as S → EnvR K B as σ env → ∀ Q : Str → Hp → Prop, (∀ B' H', Ok K B' H' as S' → Evo B H as B' H' → Q out H') → tJs ts acc σ H Q
theorem js_nil : EvJ K [] env S acc acc S := fun B H as σ c g Q q => q B H c Evo.refl
theorem js_cons {t : TE} (h : Ev K t env S (.d (.str a)) S1) (hl : (acc ++ a).length ≤ sizeLine) (k : EvJ K ts env S1 (acc ++ a) out S2) : EvJ K (t :: ts) env S acc out S2 := fun B H as σ c g Q q =>
  h B H as σ c g _ fun v B1 H1 c1 e1 r1 => by
    cases r1
    exact ⟨a, rfl, hl, k B1 H1 as σ c1 (g.mono e1.ex) _ fun B2 H2 c2 e2 => q B2 H2 c2 (e1.trans e2)⟩
theorem ev_joined (h : EvJ K ts env S Str.empty out S1) : Ev K (fun σ H Q => tJs ts Str.empty σ H fun out H1 => Q (.str out) H1) env S (.d (.str out)) S1 := fun B H as σ c g Q q =>
  h B H as σ c g _ fun B1 H1 c1 e1 => q _ B1 H1 c1 e1 (.str out)
/-- str(i) -/
def rStrI : List V → Hp → VK → Prop := fun xs H Q => ∃ i : Int, xs = [.int i] ∧ i.natAbs.log2 < 1920 ∧ Q (.str (Str.ofString (toString i))) H
theorem call_strI {X : Cx} : CallR X (.type "str") rStrI := call_str_int
theorem cd_strI (hl : i.natAbs.log2 < 1920) : CallD K rStrI [.d (.int i)] S (.str (Str.ofString (toString i))) S := fun B H as vs c r Q q => by
  cases r with
  | cons r1 rr =>
    cases rr; cases r1
    exact ⟨i, rfl, hl, q _ B H c Evo.refl (.str _)⟩
def rAddS : R2 := fun x y H Q => ∃ i j, x = V.str i ∧ y = V.str j ∧ i.length + j.length ≤ sizeLine ∧ Q (V.str (i ++ j)) H
theorem op_addS {X : Cx} : OpR X (binaryOp .Add) rAddS := op_add_str
theorem o_addS (hl : a.length + b.length ≤ sizeLine) : Op2 K rAddS (.d (.str a)) (.d (.str b)) S (.str (a ++ b)) := fun B H as v w c r1 r2 Q q => by
  cases r1; cases r2
  exact ⟨a, b, rfl, rfl, hl, q _ B H c Evo.refl (.str _)⟩
theorem Reps.strs {B : Hp} : ∀ {vs : List V} {ys : List Str}, Reps K B vs (ys.map Dat.str) → vs = ys.map V.str
  | _, [], .nil => rfl
  | _, y :: ys, .cons h r => by
    cases h
    rw [List.map_cons, Reps.strs r]
/-- sep.join(xs) -/
def rJoinD (K : PySem.W.Frag) : V → List V → Hp → VK → Prop := fun x xs H Q => ∃ a p ys, x = V.str a ∧ xs = [V.ref p] ∧ (SqL K H p (List.map V.str ys) ∨ SqT K H p (List.map V.str ys)) ∧ (List.map (fun x => x.length) ys).sum + ys.length * a.length ≤ 16777216 ∧ Q (V.str (Txt.join a ys)) H
theorem pe_joinK {X : Cx} (K : PySem.W.Frag) {o e : Expr} {to te : TE} {apos pos : Pos} (ho : PE X o to) (he : PE X e te) (hK : X.K = K := by rfl) (hs : starEach [e] X.env = [(false, eval e X.env)] := by rfl)
    (hb : attributeBase o (Str.ofString "join") X.env (eval o X.env) = eval o X.env := by rfl) (hl : (apos.endLine == pos.line) = true := by rfl) : PE X ((o.Attribute (Str.ofString "join") apos).Call [e] [] pos) (tM1 (rJoinD K) to te) := hK ▸ pe_join ho he hs hb hl
theorem ev_join {ys : List Str} (ho : Ev K to env S (.d (.str a)) S1) (h : Ev K te env S1 x S2) (hx : SeqL S2 x (ys.map Dat.str)) (hl : (ys.map fun x => x.length).sum + ys.length * a.length ≤ 16777216) : Ev K (tM1 (rJoinD K) to te) env S (.d (.str (Txt.join a ys))) S2 := fun B H as σ c g Q q =>
  ho B H as σ c g _ fun v B1 H1 c1 e1 r1 => by
    cases r1
    refine ⟨⟨a, rfl⟩, h B1 H1 as σ c1 (g.mono e1.ex) _ fun w B2 H2 c2 e2 r2 => ?_⟩
    obtain ⟨p, ws, rfl, hq, hr⟩ := hx.read c2 r2
    rw [hr.strs] at hq
    exact ⟨a, p, ys, rfl, rfl, .inl (Evl.sq_of hq), hl, q _ B2 H2 c2 (e1.trans e2) (.str _)⟩
end
end RW

namespace RwT
open PySem PySem.Spec PyProof.Rows L2
/-- str(o), o of an own class with a __str__ -/
def rStrO (C : Addr) (sp : Sp) (E : XK) : List V → Hp → VK → Prop := fun xs H Q => ∃ a dx fs, xs = [.ref a] ∧ H a = some (.ins C dx fs) ∧ sp [.ref a] H (fun v H' => ∃ t, v = .str t ∧ Q (.str t) H') E
section
variable {X : Cx} {CX : CXT} {n : Nat} {C f : Addr} {fd : FuncData} {ps : List Str} {sp : Sp} {E : XK}
theorem call_own1 {A : Around} (hr : Room n A) (hA : A.frames = X.A.frames) (F : FnOk X.prog X.w X.K X.mg X.base CX n f fd ps sp) (hb : L2.Binds X.K fd ps []) (hx : Passes CX X E) {pins : List (Addr × Obj)} {σ : L2.St} {H : Hp} {s : Shared} (I : Inv X pins σ H s) {a : Addr} {Q : VK} (h : sp [.ref a] H Q E) :
    wpAny (model X.prog X.w) A (call (.ref f) [.ref a]) (EP X pins σ Q) X.xe s := by
  have e0 : Env0 X.prog X.w X.K X.mg X.base A X.stack s H := by
    have e := I.env0
    exact ⟨by rw [hA]; exact e.frames, e.mod, e.bs, e.bsz, e.funs, e.frf, e.hok, e.bare⟩
  have hl := F.len _ _ _ _ h
  have r2 : Vals [V.ref a] [Value.ref a] := .cons rfl .nil
  refine wpAny_call (codeAny_mono (F.run A X.stack s H ⟨[.ref a], []⟩ [.ref a] [.ref a] _ E hr e0 (by
    have := hb s [.ref a] I.kIn (by simpa using hl)
    simpa using this) r2 h) fun r s' hq => ?_)
  cases r with
  | error e => exact hx pins σ H s e s' I hq
  | ok fl =>
    cases fl with
    | ret w => exact I.after hq
    | next => exact False.elim hq
    | brk => exact False.elim hq
    | cont => exact False.elim hq
theorem call_strO (hs : PySem.W.findIn X.K (.ref C) "__str__" = some (some (.ref f))) (hf : PySem.W.isFn X.K (.ref f) = true) (hr : Room (n + 2) X.A) (F : FnOk X.prog X.w X.K X.mg X.base CX n f fd ps sp) (hb : L2.Binds X.K fd ps []) (hx : Passes CX X E) : CallR X (.type "str") (rStrO C sp E) := by
  intro pins s σ H xs us Q I r h
  obtain ⟨a, dx, fs, rfl, ha, hp⟩ := h
  obtain ⟨u, rfl, r1⟩ := vals1 r
  cases r1
  obtain ⟨mA, J, _⟩ := ins_get I.hok ha
  obtain ⟨od, J, _⟩ := J.look
  have hr2 : Room n X.A.in1.in1 := (show Room (n + 1) X.A.in1 from Room.in1 hr).in1
  refine PySem.W.kso_call (by have := hr2.un; omega) I.kIn J hs hf ?_
  refine wpAny_mono (call_own1 hr2 rfl F hb hx I hp) (fun r s' q => ?_) fun _ _ x => x
  obtain ⟨z, H', I', rz, t, ez, q⟩ := q
  subst ez
  obtain ⟨tk, rfl⟩ := rz
  exact ⟨.str t, H', I', ⟨tk, rfl⟩, q⟩
end
end RwT
namespace RW
open PySem PySem.Spec PyProof.Rows L2
theorem cd_strO {K : PySem.W.Frag} {C : Addr} {G : List Sl → List Dat → Dat → List Dat → Prop} {E : XK} {S : List Dat} {fs : List (Str × Dat)} {t : Str} (hg : G [.d (.ins C fs)] S (.str t) S) :
    CallD K (RwT.rStrO C (SpD K G) E) [.d (.ins C fs)] S (.str t) S := fun B H as vs c r Q q => by
  cases r with
  | cons r1 rr =>
    cases rr
    cases r1 with
    | ins h1 q1 =>
      refine ⟨_, _, _, rfl, c.ex _ _ h1, B, as, S, [.d (.ins C fs)], _, S, c, .cons (Rep.ins h1 q1 : Rep K B _ (.ins C fs)) .nil, hg, fun v B' H' c' e' r' => ?_⟩
      cases r'
      exact ⟨t, rfl, q _ B' H' c' e' (.str _)⟩
end RW

set_option Elab.async false
set_option linter.all false
set_option maxRecDepth 100000
set_option maxHeartbeats 4000000
namespace RW
open PySem PySem.Spec PyProof.Rows L2
/-! rules inside comprehensions, with K given -/
theorem cr_sumK {X : Cx} (K : PySem.W.Frag) (hc : X.calm = true := by rfl) (h : X.K = K := by rfl) : CallR X (.builtin "sum") (rSum K) := h ▸ cr_sum hc
theorem cr_allK {X : Cx} (K : PySem.W.Frag) (hc : X.calm = true := by rfl) (h : X.K = K := by rfl) : CallR X (.builtin "all") (rAll K) := h ▸ cr_all hc
theorem cr_anyK {X : Cx} (K : PySem.W.Frag) (hc : X.calm = true := by rfl) (h : X.K = K := by rfl) : CallR X (.builtin "any") (rAny K) := h ▸ cr_any hc
theorem pi_zipGK {X : Cx} (K : PySem.W.Frag) {e e2 : Expr} {ta : TA} {p pos tpos : Pos} {elts : List Expr} {kk : Nat} (hg : Gl X "zip") (hm : X.mg "zip" = none) (ha : PA X [e, e2] ta) (h : X.K = K := by rfl)
    (hs : starEach [e, e2] X.env = (false, eval e X.env) :: starEach [e2] X.env := by rfl) (hpl : (backTo pos (starEach [e2] X.env)).any (·.1) = false := by rfl) :
    PI X (.Tuple elts kk tpos) (.Call (.Name "zip" p) [e, e2] [] pos) (iZipG K ta) := h ▸ pi_zipG hg hm ha hs hpl
theorem op_eqDK {X : Cx} (K : PySem.W.Frag) (hu : X.A.units + 64 < cLine) (h : X.K = K := by rfl) : OpR X (compareOp .Eq) (rEqD K) := h ▸ op_eqD hu
theorem op_neDK {X : Cx} (K : PySem.W.Frag) (hu : X.A.units + 64 < cLine) (h : X.K = K := by rfl) : OpR X (compareOp .NotEq) (rNeD K) := h ▸ op_neD hu
theorem EvN.toD {K : PySem.W.Frag} {te : TE} {env : Env1} {S S1 ds ds' : List Dat} (h : EvN K te env S ds S1) (e : ds = ds') : EvN K te env S ds' S1 := e ▸ h
theorem Ev.to' {K : PySem.W.Frag} {te : TE} {env : Env1} {S S1 S1' : List Dat} {r r' : Sl} (h : Ev K te env S r S1) (e : r = r') (e2 : S1 = S1') : Ev K te env S r' S1' := e ▸ e2 ▸ h
theorem sl_tupAK {X : Cx} (K : PySem.W.Frag) (h : X.K = K := by rfl) : SlR X (rSlA K) := h ▸ sl_tupA
theorem sl_listK {X : Cx} (K : PySem.W.Frag) (h : X.K = K := by rfl) : SlR X (rSlL K) := h ▸ sl_list
end RW

set_option Elab.async false
set_option linter.all false
set_option maxRecDepth 100000
set_option maxHeartbeats 4000000
/-! an own == beside whatever stands on its right -/
namespace RwT
open PySem PySem.Spec PyProof.Rows L2
inductive TyB (K : PySem.W.Frag) (H : Hp) : V → Value → Prop where
  | non : TyB K H .non (.type "NoneType")
  | int (i : Int) : TyB K H (.int i) (.type "int")
  | bl (b : Bool) : TyB K H (.bl b) (.type "bool")
  | str (z : Str) : TyB K H (.str z) (.type "str")
  | tup {a : Addr} {xs : List V} (h : SqT K H a xs) : TyB K H (.ref a) (.type "tuple")
  | ins {a C dx : Addr} {fs : List (Str × V)} (h : H a = some (.ins C dx fs)) : TyB K H (.ref a) (.ref C)
def rOwnA (K : PySem.W.Frag) (C : Addr) (sp : Sp) (E : XK) : R2 := fun x y H Q => ∃ a dx fs tb, x = .ref a ∧ H a = some (.ins C dx fs) ∧ TyB K H y tb ∧ PySem.W.notFirst K C tb = true ∧ sp [.ref a, y] H (fun v H' => ∃ k, v = .bl k ∧ Q (.bl k) H') E
section
variable {X : Cx} {CX : CXT} {n : Nat} {C f : Addr} {fd : FuncData} {ps : List Str} {sp : Sp} {E : XK}
theorem tyB_looks {M : Model} {pins : List (Addr × Obj)} {σ : L2.St} {H : Hp} {s : Shared} {y : V} {u tb : Value} (I : Inv X pins σ H s) (ry : RelV y u) (t : TyB X.K H y tb) : PySem.W.Looks M s.heap (typeOf u) tb := by
  cases t with
  | non => cases (show u = Value.none from ry); exact .of_pure rfl
  | int i => obtain ⟨tk, rfl⟩ := (show ∃ tk, u = Value.int i tk from ry); exact .of_pure rfl
  | bl b => cases (show u = Value.bool b from ry); exact .of_pure rfl
  | str z => obtain ⟨tk, rfl⟩ := (show ∃ tk, u = Value.str z tk from ry); exact .of_pure rfl
  | tup h =>
    cases (show u = Value.ref _ from ry)
    obtain ⟨its, rv, ⟨o, e, c, _⟩, _⟩ := I.tuple h
    exact c ▸ (PySem.W.Looks.ld e).andThen .now
  | ins h =>
    cases (show u = Value.ref _ from ry)
    obtain ⟨mA, J, _⟩ := ins_get I.hok h
    obtain ⟨od, J, _⟩ := J.look
    exact J.type
theorem call_ownV {A : Around} (hr : Room n A) (hA : A.frames = X.A.frames) (F : FnOk X.prog X.w X.K X.mg X.base CX n f fd ps sp) (hb : L2.Binds X.K fd ps []) (hx : Passes CX X E) {pins : List (Addr × Obj)} {σ : L2.St} {H : Hp} {s : Shared} (I : Inv X pins σ H s) {a : Addr} {y : V} {u : Value} (ry : RelV y u) {Q : VK} (h : sp [.ref a, y] H Q E) :
    wpAny (model X.prog X.w) A (call (.ref f) [.ref a, u]) (EP X pins σ Q) X.xe s := by
  have e0 : Env0 X.prog X.w X.K X.mg X.base A X.stack s H := by
    have e := I.env0
    exact ⟨by rw [hA]; exact e.frames, e.mod, e.bs, e.bsz, e.funs, e.frf, e.hok, e.bare⟩
  have hl := F.len _ _ _ _ h
  have r2 : Vals [V.ref a, y] [Value.ref a, u] := .cons rfl (.cons ry .nil)
  refine wpAny_call (codeAny_mono (F.run A X.stack s H ⟨[.ref a, u], []⟩ [.ref a, u] [.ref a, y] _ E hr e0 (by
    have := hb s [.ref a, u] I.kIn (by simpa using hl)
    simpa using this) r2 h) fun r s' hq => ?_)
  cases r with
  | error e => exact hx pins σ H s e s' I hq
  | ok fl =>
    cases fl with
    | ret w => exact I.after hq
    | next => exact False.elim hq
    | brk => exact False.elim hq
    | cont => exact False.elim hq
theorem op_ownEqA (O : OwnC X.K C f) (hr : Room n X.A) (F : FnOk X.prog X.w X.K X.mg X.base CX n f fd ps sp) (hb : L2.Binds X.K fd ps []) (hx : Passes CX X E) : OpR X (compareOp .Eq) (rOwnA X.K C sp E) := by
  intro pins s σ H x y v u Q I rx ry h
  obtain ⟨a, dx, fs, tb, rfl, ha, ty, hn, hp⟩ := h
  cases rx
  obtain ⟨mA, J, _⟩ := ins_get I.hok ha
  obtain ⟨od, J, _⟩ := J.look
  obtain ⟨m, hF⟩ := I.fr
  show wpAny (model X.prog X.w) X.A (richCompare .Eq (.ref a) u) (EP X pins σ Q) X.xe s
  refine PySem.W.cmp_K (op := .Eq) (tb := tb) hr.units0 hF I.ok.mod.kin J (tyB_looks I ry ty) hn O.eq O.fn ?_
  refine wpAny_mono (call_ownV hr rfl F hb hx I ry hp) (fun r s' q => ?_) fun _ _ x => x
  obtain ⟨z, H', I', rz, k, ez, q⟩ := q
  subst ez
  cases rz
  exact ⟨.bl k, H', I', rfl, by simpa using q⟩
theorem op_ownEqAK {K : PySem.W.Frag} (O : OwnC X.K C f) (hr : Room n X.A) (F : FnOk X.prog X.w X.K X.mg X.base CX n f fd ps sp) (hb : L2.Binds X.K fd ps []) (hx : Passes CX X E) (h : X.K = K := by rfl) : OpR X (compareOp .Eq) (rOwnA K C sp E) := h ▸ op_ownEqA O hr F hb hx
end
end RwT
namespace RW
open PySem PySem.Spec PyProof.Rows L2
/-- what is known of the kinds on the right -/
structure NotSub (K : PySem.W.Frag) (C : Addr) : Prop where
  non : PySem.W.notFirst K C (.type "NoneType") = true
  int : PySem.W.notFirst K C (.type "int") = true
  tup : PySem.W.notFirst K C (.type "tuple") = true
  self : PySem.W.notFirst K C (.ref C) = true
theorem kt_of {K : PySem.W.Frag} {C : Addr} {N : String} (h1 : PySem.W.isClsIn K C = true) (h2 : PySem.W.typeIn K (.ref C) = some (.type "type")) (h3 : PySem.W.subIn K (.type N) (.ref C) = some false) : PySem.W.kitOne K (.type N) (.ref C) = some false := by
  unfold PySem.W.kitOne
  rw [if_neg (by simp)]
  show (if ((PySem.W.clsIn K C).isSome && PySem.W.typeIn K (.ref C) == some (.type "type")) = true then _ else _) = _
  have h4 : (PySem.W.clsIn K C).isSome = true := h1
  rw [h4, h2, if_pos (by simp), h3]
inductive RightD (C : Addr) : Dat → Prop where
  | non : RightD C .non
  | int (i : Int) : RightD C (.int i)
  | tup (ds : List Dat) : RightD C (.tup ds)
  | ins (fs : List (Str × Dat)) : RightD C (.ins C fs)
theorem o_ownA {K : PySem.W.Frag} {C : Addr} {G : List Sl → List Dat → Dat → List Dat → Prop} {E : XK} {k : Bool} {S : List Dat} {fs : List (Str × Dat)} {d : Dat} (N : NotSub K C) (hd : RightD C d) (hg : G [.d (.ins C fs), .d d] S (.bl k) S) :
    Op2 K (RwT.rOwnA K C (SpD K G) E) (.d (.ins C fs)) (.d d) S (.bl k) := fun B H as v w c r1 r2 Q q => by
  cases r1 with
  | ins h1 q1 =>
    have fin : ∀ tb, RwT.TyB K H w tb → PySem.W.notFirst K C tb = true → RwT.rOwnA K C (SpD K G) E (.ref _) w H Q := fun tb ty hn =>
      ⟨_, _, _, tb, rfl, c.ex _ _ h1, ty, hn, B, as, S, [.d (.ins C fs), .d d], _, S, c, .cons (Rep.ins h1 q1 : Rep K B _ (.ins C fs)) (.cons r2 .nil), hg, fun v B' H' c' e' r' => by cases r'; exact ⟨k, rfl, q _ B' H' c' e' (.bl _)⟩⟩
    cases hd with
    | non => cases r2; exact fin _ .non N.non
    | int i => cases r2; exact fin _ (.int i) N.int
    | tup ds => cases r2 with
      | tup h2 _ => exact fin _ (.tup (Evl.ex_t c.ex h2)) N.tup
    | ins gs => cases r2 with
      | ins h2 _ => exact fin _ (.ins (c.ex _ _ h2)) N.self
end RW

set_option Elab.async false
set_option linter.all false
set_option maxRecDepth 100000
set_option maxHeartbeats 4000000
namespace RW
open PySem PySem.Spec PyProof.Rows L2 StX
theorem RepSs.mapd {K : PySem.W.Frag} {B : Hp} {as : List Addr} : ∀ {vs : List V} {ds : List Dat}, Reps K B vs ds → RepSs K B as vs (ds.map Sl.d)
  | _, _, .nil => .nil
  | _, _, .cons h r => .cons h (RepSs.mapd r)
/-- *xs in a display, xs a tuple -/
theorem ea_star {K : PySem.W.Frag} {te : TE} {tA : TA} {env : Env1} {S S1 S2 : List Dat} {ds : List Dat} {xs : List Sl} (h : Ev K te env S (.d (.tup ds)) S1) (hr : EvA K tA env S1 xs S2) : EvA K (tStar K te tA) env S (ds.map Sl.d ++ xs) S2 := fun B H as σ c g Q q =>
  h B H as σ c g _ fun v B1 H1 c1 e1 r1 => by
    cases r1 with
    | tup h1 q1 => exact ⟨_, _, rfl, .inl (Evl.ex_t c1.ex h1), hr B1 H1 as σ c1 (g.mono e1.ex) _ fun vs B2 H2 c2 e2 r2 => q _ B2 H2 c2 (e1.trans e2) ((RepSs.mapd (q1.mono e2.ex)).append r2)⟩
end RW

set_option Elab.async false
set_option linter.all false
set_option maxRecDepth 100000
set_option maxHeartbeats 4000000
namespace RW
open PySem PySem.Spec PyProof.Rows L2
open Evl (Ex)
section
variable {K : PySem.W.Frag} {n : Nat} {te ta tb tc to ti tv : TE} {env env' : Env1} {S S1 S2 S3 : List Dat} {x y z : Sl} {d e : Dat} {ds es : List Dat} {P P' : Post} {t u : TS}
  {B B0 B1 B2 B' H H0 H1 H2 H' : Hp} {as as0 as1 : List Addr} {D : Ends} {σ : L2.St} {j k : Nat}
/-- (y, xs) with xs a new list that will be changed -/
theorem sp_pairVC (hv : Ev K ta env S y S1) (h : EvN K tb env S1 ds S2) (q : SP K n u ((env.set j (some y)).set k (some (.c S2.length))) (S2 ++ [.lst ds]) P) :
    SP K n (tSeq (tAsg (tTup (tCons ta (tCons tb tNil))) (gTup K 2 (gCons (gName j) (gCons (gName k) gNil)))) u) env S P := fun B0 H0 as0 Bk B H as σ hl f c g D m =>
  hv B H as σ c g _ fun w B1 H1 c1 e1 r1 => h B1 H1 as σ c1 (g.mono e1.ex) _ fun p B2 H2 vs c2 e2 hp hb h2 r2 => ⟨by show 2 ≤ sizeLine; decide, fun t ht => by
    have hpa : p ∉ as := hp.1
    have c3 := c2.new (o := .tup [w, .ref p]) ht
    have e3 := Evo.new (o := .tup [w, .ref p]) c2 ht
    have e03 := (e1.trans e2).trans e3
    have npt : p ≠ t := by rintro rfl; rw [ht] at h2; cases h2
    refine ⟨t, _, rfl, Evl.st_of upd_same, rfl, _, _, rfl, _, _, rfl, rfl, ?_⟩
    refine q B0 H0 as0 Bk _ _ (as ++ [p]) _ hl ((f.step e03).push (f.evo.oldN (e1.oldN hp.2))) (c3.push (by rw [upd_ne npt]; exact hb) hpa (.ofL (by rw [upd_ne npt]; exact h2) (r2.mono e3.ex))) ((((g.mono e03.ex).grow).set j (((r1.mono e2.ex).mono e3.ex).grow)).set (s := .c S2.length) k ?_) D m
    exact ⟨p, by rw [← c2.len]; simp, rfl⟩⟩
/-- xs[i] = e, last of its block -/
theorem sp_setitem1 {j : Nat} {iv : Int} (h : Ev K te env S (.d d) S1) (ho : Ev K to env S1 (.c k) S2) (hi : Ev K ti env S2 (.d (.int iv)) S3) (hs : S3[k]? = some (.lst ds)) (hj : ixN ds.length iv = some j) (q : P.nx env (S3.set k (.lst (ds.set j d)))) :
    SP K n (tAsg te (gSub to ti rSetL)) env S P := fun B0 H0 as0 Bk B H as σ hl f c g D m =>
  h B H as σ c g _ fun v B1 H1 c1 e1 r1 => ho B1 H1 as σ c1 (g.mono e1.ex) _ fun w B2 H2 c2 e2 r2 => hi B2 H2 as σ c2 (g.mono (e1.trans e2).ex) _ fun w3 B3 H3 c3 e3 r3 => by
    obtain ⟨p, hp, rfl⟩ := r2
    cases r3
    obtain ⟨vs, hv, rv⟩ := (c3.cells k p _ hp hs).2.lst
    have e03 := ((e1.trans e2).trans e3).trans (Evo.setc (o := .lst (vs.set j v)) (List.mem_of_getElem? hp) hv (fun _ z => nomatch z))
    exact ⟨p, vs, iv, j, rfl, rfl, hv, by rw [rv.length]; exact hj, m.nx _ _ B3 _ as σ (f.step e03) (c3.setc hp (show CellO K B3 (.lst _) (.lst _) from Reps.set j (Rep.mono (e2.trans e3).ex r1) rv)) (g.mono e03.ex) q⟩
theorem reps_ints : ∀ ns : List Int, Reps K B (ns.map V.int) (ns.map Dat.int)
  | [] => .nil
  | i :: r => .cons (.int i) (reps_ints r)
theorem reps_rg {a b : Int} : Reps K B (rgV a b) ((List.range (b - a).toNat).map fun i => Dat.int (a + (i : Nat))) := by
  have := reps_ints (K := K) (B := B) ((List.range (b - a).toNat).map fun i => a + ((i : Nat) : Int))
  rw [List.map_map, List.map_map] at this
  exact this
/-- list(range(m)) -/
theorem en_rg1 {m : Nat} (h : Ev K te env S (.d (.int m)) S1) (hm : m ≤ 1000) : EvN K (tLstRg (tRg1 te)) env S ((List.range m).map fun i => Dat.int (i : Nat)) S1 := fun B H as σ c g Q q =>
  h B H as σ c g _ fun v B1 H1 c1 e1 r1 => by
    cases r1
    have e : ((List.range m).map fun i => Dat.int (i : Nat)) = (List.range ((m : Int) - 0).toNat).map fun i => Dat.int (0 + (i : Nat)) := by
      rw [show ((m : Int) - 0).toNat = m by omega]
      exact List.map_congr_left fun i _ => by rw [Int.zero_add]
    rw [e] at q
    exact ⟨_, rfl, RgOk.of_le (by omega) (by omega) (by omega) (by omega), fun p hp => evn_new c c1 e1 hp reps_rg q⟩
/-- list(range(a, a + k)) -/
theorem en_rg2 {a k : Nat} {b : Int} (h : Ev K ta env S (.d (.int a)) S1) (hb : Ev K tb env S1 (.d (.int b)) S2) (e : b = (a : Int) + (k : Nat)) (hm : a + k ≤ 1000) : EvN K (tLstRg (tRg2 ta tb)) env S ((List.range' a k).map fun i => Dat.int (i : Nat)) S2 := fun B H as σ c g Q q =>
  h B H as σ c g _ fun v B1 H1 c1 e1 r1 => hb B1 H1 as σ c1 (g.mono e1.ex) _ fun w B2 H2 c2 e2 r2 => by
    cases r1
    cases r2
    have e : ((List.range' a k).map fun i => Dat.int (i : Nat)) = (List.range (b - (a : Int)).toNat).map fun i => Dat.int ((a : Int) + (i : Nat)) := by
      rw [show (b - (a : Int)).toNat = k by omega, List.range'_eq_map_range, List.map_map]
      exact List.map_congr_left fun i _ => by show Dat.int ((a + i : Nat) : Int) = _; rw [Int.natCast_add]
    rw [e] at q
    exact ⟨_, _, rfl, rfl, RgOk.of_le (by omega) (by omega) (by omega) (by omega), fun p hp => evn_new c c2 (e1.trans e2) hp reps_rg q⟩
end
end RW

set_option Elab.async false
set_option linter.all false
set_option maxRecDepth 100000
set_option maxHeartbeats 4000000
namespace RwS
open PySem PySem.Spec PyProof.Rows L2
/-! ### rows of integers, in Python's order -/
def lx : List Int → List Int → Bool
  | a :: r, b :: q => decide (a < b) || (decide (a = b) && lx r q)
  | _, _ => false
theorem lx_cons {a b : Int} {r q : List Int} : lx (a :: r) (b :: q) = true ↔ a < b ∨ (a = b ∧ lx r q = true) := by
  show (decide (a < b) || (decide (a = b) && lx r q)) = true ↔ _
  simp
theorem lx_eq {p : Int} {r q : List Int} : lx (p :: r) (p :: q) = lx r q := by
  show (decide (p < p) || (decide (p = p) && lx r q)) = _
  simp
theorem lx_ne {p u : Int} {r q : List Int} (e : p ≠ u) : lx (p :: r) (u :: q) = decide (p < u) := by
  show (decide (p < u) || (decide (p = u) && lx r q)) = _
  simp [e]
theorem lx_irr : ∀ r : List Int, lx r r = false
  | [] => rfl
  | a :: r => by
    cases h : lx (a :: r) (a :: r) with
    | false => rfl
    | true =>
      rcases lx_cons.mp h with z | ⟨_, z⟩
      · omega
      · rw [lx_irr r] at z; cases z
theorem lx_trans : ∀ {x y z : List Int}, lx x y = true → lx y z = true → lx x z = true
  | a :: r, b :: q, c :: t, h1, h2 => by
    rcases lx_cons.mp h1 with p | ⟨p, p'⟩ <;> rcases lx_cons.mp h2 with q' | ⟨q', q''⟩
    · exact lx_cons.mpr (.inl (by omega))
    · exact lx_cons.mpr (.inl (by omega))
    · exact lx_cons.mpr (.inl (by omega))
    · exact lx_cons.mpr (.inr ⟨by omega, lx_trans p' q''⟩)
  | [], _, _, h1, _ => by simp [lx] at h1
  | _ :: _, [], _, h1, _ => by simp [lx] at h1
  | _ :: _, _ :: _, [], _, h2 => by simp [lx] at h2
theorem lx_tri : ∀ {x y : List Int}, x.length = y.length → lx x y = true ∨ x = y ∨ lx y x = true
  | [], [], _ => .inr (.inl rfl)
  | a :: r, b :: q, h => by
    rcases Int.lt_trichotomy a b with z | z | z
    · exact .inl (lx_cons.mpr (.inl z))
    · subst z
      rcases lx_tri (x := r) (y := q) (by simpa using h) with w | w | w
      · exact .inl (lx_cons.mpr (.inr ⟨rfl, w⟩))
      · exact .inr (.inl (by rw [w]))
      · exact .inr (.inr (lx_cons.mpr (.inr ⟨rfl, w⟩)))
    · exact .inr (.inr (lx_cons.mpr (.inl z)))
  | [], _ :: _, h => by simp at h
  | _ :: _, [], h => by simp at h
def rk (L : List (List Int)) (x : List Int) : Nat := (L.filter fun y => lx y x).length
theorem filt_le {α : Type} (p q : α → Bool) : ∀ L : List α, (∀ y ∈ L, p y = true → q y = true) → (L.filter p).length ≤ (L.filter q).length
  | [], _ => Nat.le_refl _
  | a :: L, h => by
    have ih := filt_le p q L fun y hy => h y (List.mem_cons_of_mem _ hy)
    rw [List.filter_cons, List.filter_cons]
    cases hp : p a with
    | true => rw [h a List.mem_cons_self hp]; simpa using ih
    | false =>
      cases q a with
      | true => simp; omega
      | false => simpa using ih
theorem filt_lt {α : Type} (p q : α → Bool) : ∀ L : List α, (∀ y ∈ L, p y = true → q y = true) → (∃ y ∈ L, p y = false ∧ q y = true) → (L.filter p).length < (L.filter q).length
  | [], _, h => by obtain ⟨y, hy, _⟩ := h; cases hy
  | a :: L, h, he => by
    have hL : ∀ y ∈ L, p y = true → q y = true := fun y hy => h y (List.mem_cons_of_mem _ hy)
    have le := filt_le p q L hL
    rw [List.filter_cons, List.filter_cons]
    obtain ⟨y, hy, h1, h2⟩ := he
    rcases List.mem_cons.mp hy with rfl | hy
    · rw [h1, h2]; simp; omega
    · have ih := filt_lt p q L hL ⟨y, hy, h1, h2⟩
      cases hp : p a with
      | true => rw [h a List.mem_cons_self hp]; simpa using ih
      | false =>
        cases q a with
        | true => simp; omega
        | false => simpa using ih
theorem rk_lt {L : List (List Int)} {x y : List Int} (hx : x ∈ L) (hl : x.length = y.length) : lx x y = true ↔ rk L x < rk L y := by
  constructor
  · intro h
    exact filt_lt _ _ L (fun z _ hz => lx_trans hz h) ⟨x, hx, lx_irr x, h⟩
  · intro h
    rcases lx_tri hl with z | z | z
    · exact z
    · subst z; omega
    · have := filt_le (fun w => lx w y) (fun w => lx w x) L fun w _ hw => lx_trans hw z
      unfold rk at h
      omega
section
variable {prog : Program} {w : World} {A : Around} {E : Value → Shared → Prop} {s : Shared}
theorem lex_go {Q : Bool → Shared → Prop} {b : Bool} : ∀ {xs ys : List Value} {ns ms : List Int} (i : Nat), IntsAre xs ns → IntsAre ys ms → ns.length = ms.length → Q (lx ns ms) s → PySem.W.KatLex prog w A b false Q (xs.zip ys) i s
  | _, _, _, _, i, .nil, .nil, _, h => PySem.W.kat_nil h
  | _, _, _, _, i, .cons p t hx, .cons q u hy, hl, h => by
    refine PySem.W.kat_cons (wpAny_eqBool_int ?_)
    by_cases e : p = q
    · subst e
      rw [beq_self_eq_true]
      refine PySem.W.kat_yes (lex_go (i + 1) hx hy (by simpa using hl) ?_)
      rw [lx_eq] at h
      exact h
    · rw [show (p == q) = false from beq_eq_false_iff_ne.mpr e]
      refine PySem.W.kat_no (TS.oneLt_ints _ ?_)
      rw [lx_ne e] at h
      exact h
  | _, _, _, _, _, .nil, .cons _ _ _, hl, _ => by simp at hl
  | _, _, _, _, _, .cons _ _ _, .nil, hl, _ => by simp at hl
def Tups (h : Heap) (d : Nat) (vs : List Value) : Prop := ∀ v ∈ vs, ∃ ns, TS.TupInts h v ns ∧ ns.length = d
theorem Tups.keeps {h h' : Heap} {d : Nat} {vs : List Value} (x : Tups h d vs) (k : ∀ b o, h.get? b = some o → o.cls = .type "tuple" → h'.get? b = some o) : Tups h' d vs := fun v hv => by
  obtain ⟨ns, t, l⟩ := x v hv
  exact ⟨ns, t.keeps k, l⟩
theorem firsts {h : Heap} {d : Nat} (hd : 1 ≤ d) : ∀ vs : List Value, Tups h d vs → ∃ fs, PySem.W.KatTups h vs fs ∧ fs.length = vs.length ∧ ∀ f ∈ fs, ∃ n t, f = Value.int n t
  | [], _ => ⟨[], PySem.W.KatTups.nil, rfl, fun f hf => by cases hf⟩
  | v :: vs, x => by
    obtain ⟨fs, k, l, z⟩ := firsts hd vs fun u hu => x u (List.mem_cons_of_mem _ hu)
    obtain ⟨ns, ⟨a, xs, rfl, ⟨o, ho, hc, n, hdt⟩, i⟩, hl⟩ := x v List.mem_cons_self
    cases hx : xs.toList with
    | nil => rw [hx] at i; cases i; simp at hl; omega
    | cons u us =>
      rw [hx] at i
      cases i with
      | cons m t i =>
        refine ⟨.int m t :: fs, ?_, by simp [l], fun f hf => ?_⟩
        · exact ⟨⟨a, o, xs, n, rfl, ho, hc, hdt, by rw [← Array.getElem?_toList, hx]; rfl⟩, k⟩
        · rcases List.mem_cons.mp hf with rfl | hf
          · exact ⟨m, t, rfl⟩
          · exact z f hf
/-- what sorting is told of a list of tuples of d integers -/
theorem kind_go {d : Nat} {vs : List Value} (hd : 1 ≤ d) (h2 : 2 ≤ vs.length) (x : Tups s.heap d vs) (r : Value → Int)
    (hr : ∀ u ∈ vs, ∀ v ∈ vs, ∀ ns ms, TS.TupInts s.heap u ns → TS.TupInts s.heap v ms → (lx ns ms = true ↔ r u < r v))
    (Q : SortKind → Shared → Prop) (h : ∀ κ, TS.Cmp prog w A s κ (pairsOf vs) r → Q κ s) : wpAny (model prog w) A (keyKind' vs.toArray) Q E s := by
  obtain ⟨fs, k, hl, hi⟩ := firsts hd vs x
  refine PySem.W.kat_kind (T := .type "int") k (by omega) (fun f hf => ?_) rfl (h _ fun p q hp hq Q' E' hQ => ?_)
  · obtain ⟨n, t, rfl⟩ := hi f hf
    exact .of_pure rfl
  · rw [pairsOf_toList] at hp hq
    have mp := (mem_zip_self hp).2
    have mq := (mem_zip_self hq).2
    obtain ⟨ns, tp, lp⟩ := x p.1 mp
    obtain ⟨ms, tq, lq⟩ := x q.1 mq
    have hlt : decide (r p.1 < r q.1) = lx ns ms := by
      have := hr p.1 mp q.1 mq ns ms tp tq
      cases e : lx ns ms with
      | true => exact decide_eq_true (this.mp e)
      | false => exact decide_eq_false fun z => by rw [this.mpr z] at e; cases e
    rw [hlt] at hQ
    obtain ⟨a, xs, e1, ⟨o, ho, hc, n, hdt⟩, i1⟩ := tp
    obtain ⟨b, ys, e2, ⟨o', ho', hc', n', hdt'⟩, i2⟩ := tq
    rw [e1, e2]
    have hs : xs.size = ys.size := by
      have := i1.length
      have := i2.length
      simp at *
      omega
    refine PySem.W.kat_lt ho hdt ho' hdt' ?_
    rw [hs, decide_eq_false (Nat.lt_irrefl _)]
    exact lex_go 0 i1 i2 (by omega) hQ
/-- xs.sort() -/
theorem sort_go {a : Addr} {vs : List Value} {n d : Nat} {P : Fin → Shared → Prop} (ho : s.heap.get? a = some (seqObj "list" vs.toArray n)) (h64 : vs.length < 64) (hd : 1 ≤ d) (x : Tups s.heap d vs)
    (h : ∀ out : Array Value, out.toList.Perm vs → (∃ L : Value → List Int, (∀ v ∈ vs, TS.TupInts s.heap v (L v)) ∧ out.toList.Pairwise fun u v => lx (L v) (L u) = false) →
      P (.done (.ret .none)) { s with heap := sortedHeap s.heap a vs out }) : wpAny (model prog w) A (Builtin.«list.sort» ⟨[.ref a], []⟩) P E s := by
  have keep : ∀ b o, s.heap.get? b = some o → o.cls = .type "tuple" → (TS.midHeap s.heap a vs).get? b = some o := fun b o e hc => TS.midHeap_old (by
    rintro rfl
    rw [ho] at e
    cases e
    exact absurd (Value.type.inj hc) (by decide)) e
  have hT : ∀ v ∈ vs, TS.TupInts s.heap v (TS.intsOf s.heap v) ∧ (TS.intsOf s.heap v).length = d := fun v hv => by
    obtain ⟨ns, t, l⟩ := x v hv
    rw [t.ints]
    exact ⟨t, l⟩
  refine SK.plain_sort (r := fun v => (rk (vs.map (TS.intsOf s.heap)) (TS.intsOf s.heap v) : Int)) ho h64 (fun h2 Q hQ => kind_go hd h2 (x.keeps keep) _ (fun u hu v hv ns ms tu tv => ?_) Q hQ) fun ps out e1 e2 e3 => ?_
  · have e1 : TS.intsOf s.heap u = ns := by
      have := ((hT u hu).1.keeps keep).ints
      rw [← this, tu.ints]
    have e2 : TS.intsOf s.heap v = ms := by
      have := ((hT v hv).1.keeps keep).ints
      rw [← this, tv.ints]
    rw [← e1, ← e2, rk_lt (List.mem_map.mpr ⟨u, hu, rfl⟩) (by rw [(hT u hu).2, (hT v hv).2])]
    exact (Int.ofNat_lt).symm
  · obtain ⟨p, o⟩ := TS.out_rank (r := fun v => (rk (vs.map (TS.intsOf s.heap)) (TS.intsOf s.heap v) : Int)) e1 e2 e3
    refine h out p ⟨TS.intsOf s.heap, fun v hv => (hT v hv).1, o.imp_of_mem fun {u v} hu hv le => ?_⟩
    cases e : lx (TS.intsOf s.heap v) (TS.intsOf s.heap u) with
    | false => rfl
    | true =>
      have hu' := p.mem_iff.mp hu
      have hv' := p.mem_iff.mp hv
      have := (rk_lt (L := vs.map (TS.intsOf s.heap)) (List.mem_map.mpr ⟨v, hv', rfl⟩) (by rw [(hT u hu').2, (hT v hv').2])).mp e
      omega
end
end RwS

set_option Elab.async false
set_option linter.all false
set_option maxRecDepth 100000
set_option maxHeartbeats 4000000
namespace RwS
open PySem PySem.Spec PyProof.Rows L2
theorem ints_vals : ∀ {its : List Value} {ns : List Int}, Vals (ns.map V.int) its → IntsAre its ns
  | _, [], .nil => .nil
  | _, n :: ns, .cons r rr => by
    obtain ⟨t, rfl⟩ := r
    exact .cons n t (ints_vals rr)
def rSortedDT : List V → Hp → VK → Prop := fun vs H Q => ∃ (a : Addr) (kvs : List (List L2.Key × V)) (ks : List (List Int)) (d : Nat), vs = [V.ref a] ∧ H a = some (.dT kvs) ∧ kvs.map (·.1) = ks.map (fun k => k.map Sum.inl) ∧ 1 ≤ d ∧ (∀ k ∈ ks, k.length = d) ∧ ks.length < 64 ∧
  ∀ (L : List (Addr × List Int)) (p : Addr), (∀ q ∈ L, H q.1 = some (.tup (q.2.map V.int))) → (L.map (·.2)).Perm ks → L.Pairwise (fun x y => lx y.2 x.2 = false) → H p = none → Q (.ref p) (upd H p (.lst (L.map fun q => .ref q.1)))
theorem zip_keys {γ : Type} {R : (List L2.Key × V) → γ → Prop} (g : γ → Addr) {H : Hp} (hR : ∀ p q, R p q → H (g q) = some (.tup (p.1.map kV))) : ∀ {kvs : List (List L2.Key × V)} {xs : List γ} {ks : List (List Int)}, Paired R kvs xs → kvs.map (·.1) = ks.map (fun k => k.map Sum.inl) →
    ∃ L : List (Addr × List Int), L.map (·.1) = xs.map g ∧ L.map (·.2) = ks ∧ ∀ q ∈ L, H q.1 = some (.tup (q.2.map V.int))
  | _, _, [], .nil, _ => ⟨[], rfl, rfl, fun q hq => by cases hq⟩
  | _, _, _ :: _, .nil, e => by simp at e
  | _, _, [], .cons _ _, e => by simp at e
  | p :: kvs, x :: xs, k :: ks, .cons h hr, e => by
    have e1 : p.1 = k.map Sum.inl := (List.cons.inj e).1
    have e2 : kvs.map (·.1) = ks.map (fun k => k.map Sum.inl) := (List.cons.inj e).2
    obtain ⟨L, l1, l2, l3⟩ := zip_keys g hR hr e2
    refine ⟨(g x, k) :: L, by simp [l1], by simp [l2], fun q hq => ?_⟩
    rcases List.mem_cons.mp hq with rfl | hq
    · have := hR _ _ h
      rw [e1, List.map_map] at this
      exact this
    · exact l3 q hq
theorem perm_lift : ∀ {out : List Value} {L : List (Addr × List Int)}, out.Perm (L.map fun q => Value.ref q.1) → ∃ L' : List (Addr × List Int), out = L'.map (fun q => Value.ref q.1) ∧ L'.Perm L := fun {out L} h => by
  generalize e : (L.map fun q => Value.ref q.1) = M at h
  induction h generalizing L with
  | nil => exact ⟨[], rfl, by rw [List.map_eq_nil_iff.mp e]⟩
  | cons x h ih =>
    cases L with
    | nil => cases e
    | cons q L =>
      obtain ⟨e1, e2⟩ := List.cons.inj e
      obtain ⟨L', e3, e4⟩ := ih e2
      exact ⟨q :: L', by rw [← e1, e3]; rfl, e4.cons q⟩
  | swap x y l =>
    cases L with
    | nil => cases e
    | cons q L =>
      cases L with
      | nil => cases e
      | cons r L =>
        obtain ⟨e1, e2⟩ := List.cons.inj e
        obtain ⟨e2, e3⟩ := List.cons.inj e2
        exact ⟨r :: q :: L, by rw [← e1, ← e2, ← e3]; rfl, .swap q r L⟩
  | trans h1 h2 ih1 ih2 =>
    obtain ⟨L2, e1, e2⟩ := ih2 e
    obtain ⟨L1, e3, e4⟩ := ih1 e1.symm
    exact ⟨L1, e3, e4.trans e2⟩
theorem cr_sortedDT {X : Cx} (hc : X.calm = true) : CallR X (.builtin "sorted") rSortedDT := by
  intro pins s σ H vs us Q I r h
  obtain ⟨a, kvs, ks, d, rfl, ha, hks, hd, hlen, h64, q⟩ := h
  rw [Vals.ref1 r]
  obtain ⟨z, hs, xs, pr, o, es, ep, ho, hx, hdt, he, hn⟩ := I.hok a _ ha
  obtain ⟨L, l1, l2, l3⟩ := zip_keys (fun x => x.2.1) (H := H) (fun p x hp => hp.2.1) pr hks
  have hsz : es.size = xs.length := size_of_entries he
  have hLl : L.length = xs.length := by have := congrArg List.length l1; simpa using this
  have hLk : L.length = ks.length := by have := congrArg List.length l2; simpa using this
  refine Calls.call_function_entry kind_sorted plain_sorted entry_sorted (args_sorted1 (.ref a)) ?_
  refine id (wpAny_bind (wpAny_pure (wpAny_bind (PySem.W.kdu_collect (kdl_raw hs hx hdt) (I.ok.hd hc) ho (by rw [hsz, ← hLl, hLk, sizeLine_eq]; omega) fun h' tk acc hk hacc => ?_))))
  have hacc2 : acc.toList = L.map fun q => Value.ref q.1 := by
    have e1 : (L.map fun q => Value.ref q.1) = (xs.map fun x => x.2.1).map Value.ref := by
      rw [← l1, List.map_map]; rfl
    rw [e1, List.map_map]
    refine List.ext_getElem? fun j => ?_
    obtain ⟨ha1, ha2⟩ := hacc
    cases e : acc[j]? with
    | none =>
      have : acc.size ≤ j := Array.getElem?_eq_none_iff.mp e
      rw [Array.getElem?_toList, e, List.getElem?_eq_none]
      rw [List.length_map]; omega
    | some v =>
      obtain ⟨en, h1, h2⟩ := ha2 j v e
      rw [Array.getElem?_toList, e]
      have h3 : es.toList[j]? = some en := by rw [Array.getElem?_toList]; exact h1
      rw [he, List.getElem?_map] at h3
      rw [List.getElem?_map]
      cases e4 : xs[j]? with
      | none => rw [e4] at h3; cases h3
      | some x =>
        rw [e4] at h3
        cases h3
        rw [h2]; rfl
  have I1 : Inv X pins σ H { s with heap := h', toks := tk } := I.kept (t' := tk) hk
  have tups : Tups h' d acc.toList ∧ ∀ q ∈ L, TS.TupInts h' (.ref q.1) q.2 := by
    have key : ∀ q ∈ L, TS.TupInts h' (.ref q.1) q.2 := fun q hq => by
      obtain ⟨_, its, rv, p⟩ := I1.hok q.1 _ (l3 q hq)
      exact ⟨q.1, its.toArray, rfl, p, ints_vals rv⟩
    refine ⟨fun v hv => ?_, key⟩
    rw [hacc2] at hv
    obtain ⟨q, hq, rfl⟩ := List.mem_map.mp hv
    exact ⟨q.2, key q hq, hlen _ (by rw [← l2]; exact List.mem_map.mpr ⟨q, hq, rfl⟩)⟩
  have hal : acc.toList.length = L.length := by rw [hacc2, List.length_map]
  refine wpAny_bind (wpAny_newList ?_ (by rw [hal, hLk, sizeLine_eq]; omega))
  have hoL : (h'.push { cls := Value.type "list", data := Data.seq acc.toList.toArray }).get? h'.objs.size = some (seqObj "list" acc.toList.toArray 0) := Heap.get?_push_size _ rfl
  have hp1 : ∀ b o, h'.get? b = some o → (h'.push { cls := Value.type "list", data := Data.seq acc.toList.toArray }).get? b = some o := fun b o e => Heap.get?_push_of_some _ e
  refine wpAny_bind (wpAny_holding (wpAny_call_entry slot_list_sort ⟨_, hoL, rfl⟩ entry_list_sort (sort_go hoL (by rw [hal, hLk]; exact h64) hd (tups.1.keeps fun b o e _ => hp1 b o e) fun out pm po => ⟨.none, rfl, wpAny_pure ⟨.ref h'.objs.size, rfl, ?_⟩⟩) (args_list_sort (.ref h'.objs.size))))
  obtain ⟨L', e1, e2⟩ := perm_lift (hacc2 ▸ pm)
  have hn1 : H h'.objs.size = none := I1.hok.fresh (Nat.le_refl _)
  obtain ⟨ep', hg⟩ := sortedHeap_at (out := out) hoL
  have k : ∀ b o, h'.get? b = some o → (sortedHeap (h'.push { cls := Value.type "list", data := Data.seq acc.toList.toArray }) h'.objs.size acc.toList out).get? b = some o := fun b o e => by
    have hb := Heap.lt_size e
    rw [sortedHeap_old (Nat.ne_of_lt hb) (Nat.lt_of_lt_of_le hb (by rw [PyProof.Rows.size_push']; exact Nat.le_succ _))]
    exact hp1 b o e
  have hlen' : (L'.map fun q => V.ref q.1).length ≤ sizeLine := by rw [List.length_map, e2.length_eq, hLk, sizeLine_eq]; omega
  have hv : Vals (L'.map fun q => V.ref q.1) out.toList := by rw [e1]; exact vals_of_refs L'
  have J := Inv.call (ch := []) (d' := s.drawn) (t' := tk) I1 (Un.laid k (Nat.le_refl _) hn1) (HOk.laid (o := .lst (L'.map fun q => V.ref q.1)) I1.hok k (Nat.le_refl _) ⟨hlen', out.toList, ep', hv, hg⟩) I1.bare (fun x z => by cases z)
  refine ⟨.ref h'.objs.size, _, J, rfl, q L' _ (fun r hr => l3 r (e2.mem_iff.mp hr)) (by rw [← l2]; exact e2.map _) ?_ hn1⟩
  obtain ⟨g, g1, g2⟩ := po
  rw [e1] at g2
  refine (List.pairwise_map.mp g2).imp_of_mem fun {x y} hx hy hxy => ?_
  have gx : ∀ z ∈ L', g (.ref z.1) = z.2 := fun z hz => by
    have hz' := e2.mem_iff.mp hz
    have t1 := g1 (.ref z.1) (by rw [hacc2]; exact List.mem_map.mpr ⟨z, hz', rfl⟩)
    have t2 := (tups.2 z hz').keeps (h' := h'.push { cls := Value.type "list", data := Data.seq acc.toList.toArray }) fun b o e _ => hp1 b o e
    exact t1.ints.symm.trans t2.ints
  rw [gx x hx, gx y hy] at hxy
  exact hxy
end RwS

set_option Elab.async false
set_option linter.all false
set_option maxRecDepth 100000
set_option maxHeartbeats 4000000
namespace RwS
open PySem PySem.Spec PyProof.Rows L2 CwR
/-! ### where some object has been made before: text.replace -/
def PTt (X : Cx) (e : Expr) (t : TT) : Prop := ∀ (pins : List (Addr × Obj)) (s : Shared) (σ : L2.St) (H : Hp) (Q : Bool → Hp → Prop), 1 ≤ s.toks → Inv X pins σ H s → t σ H Q → wpAny (model X.prog X.w) X.A (PySem.isTrue e X.env (eval e X.env)) (TP X pins σ Q) X.xe s
def PTg (X : Cx) (e : Expr) (t : TT) : Prop := ∀ (pins : List (Addr × Obj)) (s : Shared) (σ : L2.St) (H : Hp) (Q : Bool → Hp → Prop), Inv X pins σ H s → t σ H Q → wpAny (model X.prog X.w) X.A (PySem.isTrue e X.env (eval e X.env)) (fun b s' => TP X pins σ Q b s' ∧ 1 ≤ s'.toks) X.xe s
def PEg (X : Cx) (e : Expr) (t : TE) : Prop := ∀ (pins : List (Addr × Obj)) (s : Shared) (σ : L2.St) (H : Hp) (Q : VK), Inv X pins σ H s → t σ H Q → wpAny (model X.prog X.w) X.A (eval e X.env) (fun v s' => EP X pins σ Q v s' ∧ 1 ≤ s'.toks) X.xe s
section
variable {X : Cx} {a b e o : Expr} {ta tb : TT} {te to : TE} {pos : Pos}
theorem petT_bm0 {name : Str} {apos cpos : Pos} {T id : String} {r : V → List V → Hp → VK → Prop} (pa : PlainAttrs T) (slot : Slot T name id) (hty : typeOf (.builtin id) = pure (.type "method_descriptor")) (hm : MtR X id r) (ho : PET X o to)
    (hbase : attributeBase o name X.env (eval o X.env) = eval o X.env := by rfl) (hline : (apos.endLine == cpos.line) = true := by rfl) : PET X ((o.Attribute name apos).Call [] [] cpos) (tBM0 X.K T r to) := fun pins s σ H Q h0 I h =>
  wpAny_Call_method0_late hbase hline (thn (ho pins s σ H (fun x H1 => tyV X.K T x H1 ∧ r x [] H1 Q) h0 I h) fun v s1 ⟨x, H1, I1, r1, ty, q1⟩ => by
    obtain ⟨h1, h2⟩ := tyV_is I1 r1 ty
    exact ⟨T, id, pa, slot, hty, h1, h2, Calls.callWith_builtin rfl (PySem.evalArgs_none (hm pins s1 σ H1 x [] v [] Q I1 r1 .nil q1))⟩)
theorem ptT_tru (ha : PET X a te) (he : ∀ whole, PySem.isTrue a X.env whole = (do let v ← whole; standAt a.pos; holding [v] (truthy v)) := by intro _; rfl) : PTt X a (RW.tTru X.K te) := fun pins s σ H Q h0 I h =>
  isTrue_plain (thn (ha pins s σ H (fun x H' => ∃ k, TruV X.K x H' k ∧ Q k H') h0 I h) fun v s1 ⟨x, H1, I1, r1, q1⟩ => tru_ok pins s1 σ H1 x v Q I1 r1 q1) (he _)
theorem ptT_not (ha : PTt X a ta) : PTt X (.UnaryOp .Not a pos) (tNot ta) := fun pins s σ H Q h0 I h => isTrue_not (ha pins s σ H (fun c H1 => Q (!c) H1) h0 I h)
theorem ptT_or (ha : PT X a ta) (hb : PTt X b tb) : PTt X (.BoolOp .Or [a, b] pos) (tOr ta tb) := fun pins s σ H Q h0 I h =>
  isTrue_or (wpAny_mono (wpAny_toks (ha.run pins s σ H _ I h)) (fun c s1 ⟨hk, H1, I1, q1⟩ => by
    cases c with
    | true => exact ⟨H1, I1, q1⟩
    | false =>
      refine isTrue_or (thn (hb pins s1 σ H1 Q (Nat.le_trans h0 hk) I1 q1) fun c s2 z => ?_)
      cases c with
      | true => exact z
      | false => exact isTrue_or_nil z) fun _ _ z => z.2)
/-- len(x), x a text: an integer is made -/
def rLenS : List V → Hp → VK → Prop := fun xs H Q => ∃ z, xs = [V.str z] ∧ z.length ≤ sizeLine ∧ Q (.int z.length) H
theorem call_lenS {X : Cx} : CallR X (.builtin "len") rLenS := call_len_str
theorem peg_len {p : Pos} {tA : TA} (hg : Gl X "len") (hm : X.mg "len" = none) (ha : PA X [e] tA) (hs : starEach [e] X.env = (false, eval e X.env) :: starEach [] X.env := by rfl) (hpl : ((backTo pos (starEach [] X.env)).any fun x => x.1) = false := by rfl) :
    PEg X (.Call (.Name "len" p) [e] [] pos) (tCB rLenS tA) := fun pins s σ H Q I h => by
  refine wpAny_Call_Name_kw (ld_blt I hg hm boot_len (callWith_builtin1 (thn (ha.run pos pins s σ H (fun vs H1 => rLenS vs H1 Q) I h) fun us s1 ⟨vs, H1, I1, r1, z, e1, hz, q1⟩ => ?_) hs hpl) (by decide) (by decide))
  subst e1
  cases r1 with
  | cons r1 rr =>
    cases rr
    obtain ⟨t, rfl⟩ := r1
    exact len_str (by have := line63; omega) ⟨⟨.int z.length, H1, I1.tok _, ⟨_, rfl⟩, q1⟩, by simp⟩
theorem ptg_cmp {op : CmpOp} {r : R2} {ta tb : TE} (ho : OpR X (compareOp op) r) (ha : PEg X a ta) (hb : PE X b tb) (hm : behindInMarks op b = false) : PTg X (.Compare a [op] [b] pos) (tTest (tOp r ta tb)) := fun pins s σ H Q I h =>
  wpAny_isTrue_Compare1 (thn (ha pins s σ H _ I h) fun v s1 ⟨⟨x, H1, I1, r1, q1⟩, h1⟩ =>
    wpAny_mono (wpAny_toks (hb.run pins s1 σ H1 _ I1 q1)) (fun u s2 ⟨k2, y, H2, I2, r2, q2⟩ =>
      wpAny_mono (wpAny_toks (ho pins s2 σ H2 x y v u _ I2 r1 r2 q2)) (fun c s3 ⟨k3, z, H3, I3, r3, k, e, q3⟩ => by
        subst e
        cases (show c = Value.bool k from r3)
        exact wpAny_truthy_bool ⟨⟨H3, I3, q3⟩, Nat.le_trans h1 (Nat.le_trans k2 k3)⟩) fun _ _ z => z.2) fun _ _ z => z.2) hm
/-- the first is false -/
def tOrF (ta tb : TT) : TT := fun σ H Q => ta σ H fun b H1 => b = false ∧ tb σ H1 Q
theorem ptg_or (ha : PT X a ta) (hb : PTg X b tb) : PTg X (.BoolOp .Or [a, b] pos) (tOrF ta tb) := fun pins s σ H Q I h =>
  isTrue_or (thn (ha.run pins s σ H _ I h) fun c s1 ⟨H1, I1, ec, q1⟩ => by
    subst ec
    refine isTrue_or (thn (hb pins s1 σ H1 Q I1 q1) fun c s2 z => ?_)
    cases c with
    | true => exact z
    | false => exact isTrue_or_nil z)
/-- if test: raise; and what follows, with a token known -/
def tGuard (ta : TT) (t2 : TS) : TS := fun D σ H => ta σ H fun b H1 => b = false ∧ t2 D σ H1
def tGuard1 (ta : TT) : TS := fun D σ H => ta σ H fun b H1 => b = false ∧ D.nx σ H1
theorem pss_guard {t2 : TS} {bd : List Stmt} {rest : List Stmt} (ha : PTg X a ta) (hr : PSsT X rest t2) : PSs X (.If a bd [] pos :: rest) (tGuard ta t2) := ⟨fun pins s σ H D I h =>
  wpAny_execs_cons (wpAny_If (thn (ha pins s σ H _ I h) fun c s1 ⟨⟨H1, I1, ec, q1⟩, h1⟩ => by
    subst ec
    exact wpAny_execs_nil (hr pins s1 σ H1 D h1 I1 q1)))⟩
theorem psst_guard {bd : List Stmt} (ha : PTt X a ta) : PSsT X [.If a bd [] pos] (tGuard1 ta) := fun pins s σ H D h0 I h =>
  wpAny_execs_cons (wpAny_If (thn (ha pins s σ H _ h0 I h) fun c s1 ⟨H1, I1, ec, q1⟩ => by
    subst ec
    exact wpAny_execs_nil (wpAny_execs_nil ⟨σ, H1, I1, q1⟩)))
end
end RwS

set_option Elab.async false
set_option linter.all false
set_option maxRecDepth 100000
set_option maxHeartbeats 4000000
namespace RW
open PySem PySem.Spec PyProof.Rows L2
open Evl (Ex)
section
variable {K : PySem.W.Frag} {n : Nat} {te ta tb tc to ti tv : TE} {tt tu : TT} {tA tR : TA} {env env' : Env1} {S S1 S2 S3 : List Dat} {x y z : Sl} {d e : Dat} {ds es : List Dat} {r r' : R2} {P P' : Post} {t u : TS}
  {B B0 B1 B2 B' H H0 H1 H2 H' : Hp} {as as0 as1 : List Addr} {D : Ends} {σ : L2.St} {i k : Nat} {a b c : Bool} {p q : Str}
/-! ### texts -/
theorem cd_lenT (hl : p.length ≤ sizeLine) : CallD K RwS.rLenS [.d (.str p)] S (.int p.length) S := fun B H as vs c r Q q => by
  cases r with
  | cons r1 rr =>
    cases rr; cases r1
    exact ⟨p, rfl, hl, q _ B H c Evo.refl (.int _)⟩
def rIntS : List V → Hp → VK → Prop := fun xs H Q => ∃ a n, xs = [V.str a] ∧ intText? a = some n ∧ a.length ≤ 640 ∧ Q (.int n) H
theorem call_intS {X : Cx} : CallR X (.type "int") rIntS := call_int_str
theorem cd_intS {j : Int} (h : intText? p = some j) (hl : p.length ≤ 640) : CallD K rIntS [.d (.str p)] S (.int j) S := fun B H as vs c r Q q => by
  cases r with
  | cons r1 rr =>
    cases rr; cases r1
    exact ⟨p, j, rfl, h, hl, q _ B H c Evo.refl (.int _)⟩
/-- x.isdigit() and the like -/
theorem ev_bm0S {f : Str → V} {C : Str → Prop} (h : Ev K to env S (.d (.str p)) S1) (hc : C p) (hd : ∀ B : Hp, Rep K B (f p) d) : Ev K (tBM0 K "str" (fun x xs H Q => ∃ a, x = V.str a ∧ xs = [] ∧ C a ∧ Q (f a) H) to) env S (.d d) S1 := fun B H as σ c g Q q =>
  h B H as σ c g _ fun v B1 H1 c1 e1 r1 => by
    cases r1
    exact ⟨rfl, p, rfl, rfl, hc, q _ B1 H1 c1 e1 (hd B1)⟩
theorem ev_startsS (h : Ev K to env S (.d (.str p)) S1) (hx : EvA K tA env S1 [.d (.str q)] S2) : Ev K (tBM K "str" (fun x xs H Q => ∃ a b, x = V.str a ∧ xs = [V.str b] ∧ Q (.bl (Txt.startswith a b)) H) to tA) env S (.d (.bl (Txt.startswith p q))) S2 := fun B H as σ c g Q k =>
  h B H as σ c g _ fun v B1 H1 c1 e1 r1 => by
    cases r1
    refine ⟨rfl, hx B1 H1 as σ c1 (g.mono e1.ex) _ fun vs B2 H2 c2 e2 r2 => ?_⟩
    cases r2 with
    | cons r2 rr =>
      cases rr; cases r2
      exact ⟨p, q, rfl, rfl, k _ B2 H2 c2 (e1.trans e2) (.bl _)⟩
theorem reps_strs : ∀ ys : List Str, Reps K B (ys.map V.str) (ys.map Dat.str)
  | [] => .nil
  | i :: r => .cons (.str i) (reps_strs r)
theorem en_split (h : Ev K to env S (.d (.str p)) S1) (hx : EvA K tA env S1 [.d (.str q)] S2) (h1 : (q.length == 0) = false) (h2 : p.length + 2 ≤ sizeLine) :
    EvN K (tBM K "str" (fun x xs H Q => ∃ a b, x = V.str a ∧ xs = [V.str b] ∧ (b.length == 0) = false ∧ a.length + 2 ≤ sizeLine ∧ rNewStrs (Txt.split a b) H Q) to tA) env S ((Txt.split p q).map Dat.str) S2 := fun B H as σ c g Q k =>
  h B H as σ c g _ fun v B1 H1 c1 e1 r1 => by
    cases r1
    refine ⟨rfl, hx B1 H1 as σ c1 (g.mono e1.ex) _ fun vs B2 H2 c2 e2 r2 => ?_⟩
    cases r2 with
    | cons r2 rr =>
      cases rr; cases r2
      exact ⟨p, q, rfl, rfl, h1, h2, fun w hw => evn_new c c2 (e1.trans e2) hw (reps_strs _) k⟩
theorem ev_slS {tl th : TO} {lo hi : Option Int} (h : Ev K te env S (.d (.str p)) S1) (hl : EvO K tl env S1 lo S2) (hh : EvO K th env S2 hi S3) (hz : p.length ≤ sizeLine) : Ev K (tSl rSlS te tl th) env S (.d (.str (cutS p lo hi))) S3 := fun B H as σ c g Q q =>
  h B H as σ c g _ fun v B1 H1 c1 e1 r1 => hl B1 H1 as σ c1 (g.mono e1.ex) _ fun B2 H2 c2 e2 => hh B2 H2 as σ c2 (g.mono (e1.trans e2).ex) _ fun B3 H3 c3 e3 => by
    cases r1
    exact ⟨p, rfl, hz, q _ B3 H3 c3 ((e1.trans e2).trans e3) (.str _)⟩
theorem o_eqS : Op2 K rEq (.d (.str p)) (.d (.str q)) S (.bl (decide (p = q))) := fun B H as v w c r1 r2 Q k => by
  cases r1; cases r2
  have e : decide (V.str p = V.str q) = decide (p = q) := by
    by_cases h : p = q
    · subst h; simp
    · simp [h]
  refine ⟨rfl, ?_⟩
  rw [e]
  exact k _ B H c Evo.refl (.bl _)
theorem o_neS : Op2 K rNe (.d (.str p)) (.d (.str q)) S (.bl (!decide (p = q))) := fun B H as v w c r1 r2 Q k => by
  cases r1; cases r2
  have e : decide (V.str p = V.str q) = decide (p = q) := by
    by_cases h : p = q
    · subst h; simp
    · simp [h]
  refine ⟨rfl, ?_⟩
  rw [e]
  exact k _ B H c Evo.refl (.bl _)
/-- None in a list of integers -/
theorem o_inN {ns : List Int} (h : Seq S x (ns.map Dat.int)) : Op2 K (rIn K false) (.d .non) x S (.bl false) := fun B H as v w c r1 r2 Q k => by
  cases r1
  obtain ⟨a, kk, vs, rfl, hq, hr⟩ := h.read c r2
  have e := hr.ints
  subst e
  refine ⟨a, _, rfl, sq_or hq, rfl, ?_, ?_⟩
  · rw [List.all_eq_true]
    intro v hv
    obtain ⟨j, _, rfl⟩ := List.mem_map.mp hv
    rfl
  · have : inV V.non (ns.map V.int) = false := by
      unfold inV
      rw [List.any_eq_false]
      intro v hv
      obtain ⟨j, _, rfl⟩ := List.mem_map.mp hv
      exact fun z => nomatch z
    rw [this]
    exact k _ B H c Evo.refl (.bl _)
/-- x.replace(..) -/
theorem ev_repl {y z : Str} (h : Ev K to env S (.d (.str p)) S1) (hl : p.length + (p.length + 1) * z.length ≤ 16777216) : Ev K (CwR.tReplC to y z) env S (.d (.str (Txt.replace p y z))) S1 := fun B H as σ c g Q q =>
  h B H as σ c g _ fun v B1 H1 c1 e1 r1 => by
    cases r1
    exact ⟨p, rfl, hl, q _ B1 H1 c1 e1 (.str _)⟩
theorem sp_guard (h : EvT K tt env S false S1) (k : SP K n u env S1 P) : SP K n (RwS.tGuard tt u) env S P := fun B0 H0 as0 Bk B H as σ hl f c g D m =>
  h B H as σ c g _ fun B1 H1 c1 e1 => ⟨rfl, k B0 H0 as0 Bk B1 H1 as σ hl (f.step e1) c1 (g.mono e1.ex) D m⟩
theorem sp_guard1 (h : EvT K tt env S false S1) (k : P.nx env S1) : SP K n (RwS.tGuard1 tt) env S P := fun B0 H0 as0 Bk B H as σ hl f c g D m =>
  h B H as σ c g _ fun B1 H1 c1 e1 => ⟨rfl, m.nx env S1 B1 H1 as σ (f.step e1) c1 (g.mono e1.ex) k⟩
theorem et_orF (h1 : EvT K tt env S false S1) (h2 : EvT K tu env S1 b S2) : EvT K (RwS.tOrF tt tu) env S b S2 := fun B H as σ c g Q q =>
  h1 B H as σ c g _ fun B1 H1 c1 e1 => ⟨rfl, h2 B1 H1 as σ c1 (g.mono e1.ex) Q fun B2 H2 c2 e2 => q B2 H2 c2 (e1.trans e2)⟩
/-! ### rows, one below the other -/
theorem leT_lex : ∀ (ns ms : List Int) (j m : Nat), j + m = ns.length → ns.length = ms.length → Ob.lexAt (fun j => decide (ns.getD j 0 = ms.getD j 0)) (fun j => decide (ns.getD j 0 ≤ ms.getD j 0)) (decide (ns.length ≤ ms.length)) j m = !RwS.lx (ms.drop j) (ns.drop j)
  | ns, ms, j, 0, h1, h2 => by
    rw [show j = ns.length by omega, List.drop_length]
    rw [show ms.drop ns.length = [] by rw [h2, List.drop_length]]
    show decide (ns.length ≤ ms.length) = !RwS.lx [] []
    rw [decide_eq_true (by omega)]; rfl
  | ns, ms, j, m + 1, h1, h2 => by
    have hj : j < ns.length := by omega
    have hj2 : j < ms.length := by omega
    have ih := leT_lex ns ms (j + 1) m (by omega) h2
    have e1 : ns.drop j = ns.getD j 0 :: ns.drop (j + 1) := by
      rw [List.drop_eq_getElem_cons hj]; simp [hj]
    have e2 : ms.drop j = ms.getD j 0 :: ms.drop (j + 1) := by
      rw [List.drop_eq_getElem_cons hj2]; simp [hj2]
    rw [e1, e2]
    show (if decide (ns.getD j 0 = ms.getD j 0) = true then Ob.lexAt _ _ _ (j + 1) m else decide (ns.getD j 0 ≤ ms.getD j 0)) = _
    by_cases h : ns.getD j 0 = ms.getD j 0
    · rw [if_pos (by simpa using h), ih, h, RwS.lx_eq]
    · rw [if_neg (by simpa using h), RwS.lx_ne (fun z => h z.symm)]
      by_cases h' : ns.getD j 0 ≤ ms.getD j 0
      · rw [decide_eq_true h', decide_eq_false (by omega)]; rfl
      · rw [decide_eq_false h', decide_eq_true (by omega)]; rfl
theorem reps_tup {v : V} {ns : List Int} (c : Ok K B H as S) (r : Rep K B v (.tup (ns.map Dat.int))) : ∃ a, v = .ref a ∧ SqT K H a (ns.map V.int) := by
  cases r with
  | tup h1 r1 =>
    have e := r1.ints
    subst e
    exact ⟨_, rfl, Evl.ex_t c.ex h1⟩
theorem o_leR {ns ms : List Int} (h : ns.length = ms.length) : Op2 K (rLeT K) (.d (.tup (ns.map Dat.int))) (.d (.tup (ms.map Dat.int))) S (.bl (!RwS.lx ms ns)) := fun B H as v w c r1 r2 Q k => by
  obtain ⟨a, rfl, h1⟩ := reps_tup c r1
  obtain ⟨b, rfl, h2⟩ := reps_tup c r2
  refine ⟨a, b, ns, ms, rfl, rfl, h1, h2, ?_⟩
  have := leT_lex ns ms 0 (min ns.length ms.length) (by omega) h
  rw [List.drop_zero, List.drop_zero] at this
  rw [this]
  exact k _ B H c Evo.refl (.bl _)
end
end RW

set_option Elab.async false
set_option linter.all false
set_option maxRecDepth 100000
set_option maxHeartbeats 4000000
namespace RW
open PySem PySem.Spec PyProof.Rows L2
open Evl (Ex)
section
variable {K : PySem.W.Frag} {n : Nat} {te ta tb tc to ti tv : TE} {tt tu : TT} {tA tR : TA} {env env' : Env1} {S S1 S2 S3 : List Dat} {x y z : Sl} {d e : Dat} {ds es : List Dat} {r r' : R2} {P P' : Post} {t u : TS}
  {B B0 B1 B2 B' H H0 H1 H2 H' : Hp} {as as0 as1 : List Addr} {D : Ends} {σ : L2.St} {i k : Nat} {a b c : Bool} {p q : Str}
theorem RepF.none {f : Str} : ∀ {vs : List (Str × V)} {fs : List (Str × Dat)}, RepF K B vs fs → fs.lookup f = none → vs.lookup f = none
  | _, _, .nil, _ => rfl
  | _, _, .cons (f := g) (vs := vs) (ds := ds) h r, e => by
    by_cases q : (f == g) = true
    · simp only [List.lookup, q] at e; cases e
    · have q' : (f == g) = false := by simpa using q
      simp only [List.lookup, q'] at e ⊢
      exact RepF.none r e
  | _, _, .cel (f := g) r, e => by
    by_cases q : (f == g) = true
    · simp only [List.lookup, q] at e; cases e
    · have q' : (f == g) = false := by simpa using q
      simp only [List.lookup, q'] at e ⊢
      exact RepF.none r e
/-- o.m(..), o an instance that is changed -/
theorem ev_meth {C : Addr} {m : Str} {fs : List (Str × Dat)} {G : List Sl → List Dat → Dat → List Dat → Prop} {E : XK} {ss : List Sl} (h : Ev K ta env S (.c k) S1) (hs : S1[k]? = some (.ins C fs)) (hm : fs.lookup m = none) (hx : EvA K tA env S1 ss S2) (hg : G (.c k :: ss) S2 d S3) :
    Ev K (tMeth C m (SpD K G) [] E ta tA) env S (.d d) S3 := fun B H as σ c g Q q =>
  h B H as σ c g _ fun v B1 H1 c1 e1 r1 => by
    obtain ⟨w, hw, rfl⟩ := r1
    obtain ⟨dx, vs, hv, rv⟩ := (c1.cells k w _ hw hs).2.ins
    refine ⟨w, dx, vs, rfl, hv, RepF.none rv hm, hx B1 H1 as σ c1 (g.mono e1.ex) _ fun us B2 H2 c2 e2 r2 => ?_⟩
    exact ⟨B2, as, S2, .c k :: ss, d, S3, c2, by rw [List.append_nil]; exact .cons ⟨w, hw, rfl⟩ r2, hg, fun v B3 H3 c3 e3 r3 => q v B3 H3 c3 ((e1.trans e2).trans e3) r3⟩
/-- x = C(..), an instance that will be changed -/
theorem sp_setMk {C : Addr} {G : List Sl → List Dat → Dat → List Dat → Prop} {ss : List Sl} {E : XK} {fs : List (Str × Dat)} (h : EvA K tA env S ss S1) (hg : G (.c S1.length :: ss) (S1 ++ [.ins C []]) .non (S2 ++ [.ins C fs])) (hl : S2.length = S1.length)
    (q : SP K n u (env.set i (some (.c S1.length))) (S2 ++ [.ins C fs]) P) : SP K n (tSeq (tAsg (tMake C (SpD K G) [] E tA) (gName i)) u) env S P := fun B0 H0 as0 Bk B H as σ hl0 f0 c g D m =>
  h B H as σ c g _ fun vs B1 H1 c1 e1 r1 x dx hx hdx hne => by
    have hB := c1.Bnone hx
    have hxa := c1.fresh hx
    have hdB := c1.Bnone hdx
    have hda := c1.fresh hdx
    have c2 : Ok K B1 (upd (upd H1 dx (.own x)) x (.ins C dx [])) as S1 := (c1.other hdB hda).other hB hxa
    have e2 : Evo B1 H1 as B1 (upd (upd H1 dx (.own x)) x (.ins C dx [])) := (Evo.refl.other (.of hdx)).other (.of hx)
    have c3 : Ok K B1 (upd (upd H1 dx (.own x)) x (.ins C dx [])) (as ++ [x]) (S1 ++ [.ins C []]) := c2.push hB hxa (CellAt.ofI upd_same .nil) (fun _ _ _ _ _ _ e q _ => by cases e; cases q)
    have grow : ∀ {vs : List V} {ss : List Sl}, RepSs K B1 as vs ss → RepSs K B1 (as ++ [x]) vs ss := by
      intro vs ss h
      induction h with
      | nil => exact .nil
      | cons h _ ih => exact .cons h.grow ih
    have r3 : RepSs K B1 (as ++ [x]) (.ref x :: (vs ++ [])) (.c S1.length :: ss) := by
      refine .cons ⟨x, by rw [← c1.len]; simp, rfl⟩ ?_
      rw [List.append_nil]
      exact grow r1
    refine ⟨B1, as ++ [x], _, _, _, _, c3, r3, hg, fun v B4 H4 c4 e4 r4 => ⟨by cases r4; rfl, ?_⟩⟩
    have f3 : Fr B0 H0 as0 Bk B1 _ (as ++ [x]) := ((f0.step e1).step e2).push ((f0.step e1).evo.old hx)
    exact q B0 H0 as0 Bk B4 H4 (as ++ [x]) _ hl0 (f3.step e4) c4 ((((g.mono e1.ex).grow).mono e4.ex).set i ⟨x, by rw [← c1.len]; simp, rfl⟩) D m
/-- o.f += e, of a field that is a number -/
theorem sp_fldaug {C : Addr} {fs : List (Str × Dat)} {f : Str} {p q : Int} (ho : Ev K ta env S (.c k) S1) (hs : S1[k]? = some (.ins C fs)) (cl : Cls K C) (na : NoAttr K C f) (hf : fs.lookup f = some (.int p)) (h : Ev K tv env S1 (.d (.int q)) S1) (hl : fs.length < 1000)
    (kk : SP K n u env (S1.set k (.ins C (putFD f (.int (p + q)) fs))) P) : SP K n (tSeq (sFldAug K ta tv rAdd f) u) env S P := fun B0 H0 as0 Bk B H as σ hl0 f0 c g D m =>
  ho B H as σ c g _ fun w B1 H1 c1 e1 r1 => by
    obtain ⟨x, hx, rfl⟩ := r1
    obtain ⟨dx, vs, hv, rv⟩ := (c1.cells k x _ hx hs).2.ins
    obtain ⟨v, hv1, rv1⟩ := rv.get hf (fun _ z => nomatch z)
    cases rv1
    refine ⟨x, C, dx, vs, .int p, rfl, hv, cl, na, hv1, h B1 H1 as σ c1 (g.mono e1.ex) _ fun y B2 H2 c2 e2 r2 => ?_⟩
    cases r2
    obtain ⟨dx2, vs2, hv2, rv2⟩ := (c2.cells k x _ hx hs).2.ins
    have e03 := (e1.trans e2).trans (Evo.setc (o := .ins C dx2 (putF f (.int (p + q)) vs2)) (List.mem_of_getElem? hx) hv2 (fun _ z => nomatch z))
    exact ⟨p, q, rfl, rfl, dx2, vs2, hv2, by rw [rv2.length]; exact hl, kk B0 H0 as0 Bk B2 _ as σ hl0 (f0.step e03) (c2.setc hx (show CellO K B2 (.ins C dx2 _) (.ins C _) from ⟨rfl, RepF.put (.int _) rv2⟩) (c2.lkput hx hs hv2 (.int _))) (g.mono e03.ex) D m⟩
theorem sp_fldaug1 {C : Addr} {fs : List (Str × Dat)} {f : Str} {p q : Int} (ho : Ev K ta env S (.c k) S1) (hs : S1[k]? = some (.ins C fs)) (cl : Cls K C) (na : NoAttr K C f) (hf : fs.lookup f = some (.int p)) (h : Ev K tv env S1 (.d (.int q)) S1) (hl : fs.length < 1000)
    (kk : P.nx env (S1.set k (.ins C (putFD f (.int (p + q)) fs)))) : SP K n (sFldAug K ta tv rAdd f) env S P := fun B0 H0 as0 Bk B H as σ hl0 f0 c g D m =>
  ho B H as σ c g _ fun w B1 H1 c1 e1 r1 => by
    obtain ⟨x, hx, rfl⟩ := r1
    obtain ⟨dx, vs, hv, rv⟩ := (c1.cells k x _ hx hs).2.ins
    obtain ⟨v, hv1, rv1⟩ := rv.get hf (fun _ z => nomatch z)
    cases rv1
    refine ⟨x, C, dx, vs, .int p, rfl, hv, cl, na, hv1, h B1 H1 as σ c1 (g.mono e1.ex) _ fun y B2 H2 c2 e2 r2 => ?_⟩
    cases r2
    obtain ⟨dx2, vs2, hv2, rv2⟩ := (c2.cells k x _ hx hs).2.ins
    have e03 := (e1.trans e2).trans (Evo.setc (o := .ins C dx2 (putF f (.int (p + q)) vs2)) (List.mem_of_getElem? hx) hv2 (fun _ z => nomatch z))
    exact ⟨p, q, rfl, rfl, dx2, vs2, hv2, by rw [rv2.length]; exact hl, m.nx _ _ B2 _ as σ (f0.step e03) (c2.setc hx (show CellO K B2 (.ins C dx2 _) (.ins C _) from ⟨rfl, RepF.put (.int _) rv2⟩) (c2.lkput hx hs hv2 (.int _))) (g.mono e03.ex) kk⟩
/-- while test: body -/
theorem sp_while {tb : TS} (Inv : Nat → Env1 → List Dat → Prop) {m0 : Nat} (h0 : Inv m0 env S)
    (hs : ∀ m env' S', Inv m env' S' → ∃ (b : Bool) (S2 : List Dat), EvT K tt env' S' b S2 ∧
      (b = true → SP K n tb env' S2 { nx := fun env2 S3 => ∃ m', m' < m ∧ Inv m' env2 S3, rt := P.rt, ok := P.ok, bk := P.nx, ct := fun env2 S3 => ∃ m', m' < m ∧ Inv m' env2 S3 }) ∧ (b = false → P.nx env' S2)) :
    SP K n (tWhile tt tb) env S P := fun B0 H0 as0 Bk B H as σ hl f0 c g0 D mm => by
  refine ⟨fun m σ' H' => ∃ env' S' B' as', Fr B0 H0 as0 Bk B' H' as' ∧ Ok K B' H' as' S' ∧ EnvR K B' as' σ' env' ∧ Inv m env' S', ⟨m0, env, S, B, as, f0, c, g0, h0⟩, ?_⟩
  rintro m σ' H' ⟨env', S', B', as', f', c', g', hinv⟩
  obtain ⟨b, S2, ht, h1, h2⟩ := hs m env' S' hinv
  refine ht B' H' as' σ' c' g' _ fun B2 H2 c2 e2 => ?_
  have f2 := f'.step e2
  have g2 := g'.mono e2.ex
  cases b with
  | false =>
    rw [if_neg (by decide)]
    exact mm.nx env' S2 B2 H2 as' σ' f2 c2 g2 (h2 rfl)
  | true =>
    rw [if_pos rfl]
    refine ⟨fun σ3 H3 => ∃ m', m' < m ∧ ∃ env3 S3 B3 as3, Fr B0 H0 as0 Bk B3 H3 as3 ∧ Ok K B3 H3 as3 S3 ∧ EnvR K B3 as3 σ3 env3 ∧ Inv m' env3 S3, fun σ3 H3 ⟨m', hm, h⟩ => ⟨m', hm, h⟩, ?_⟩
    refine h1 rfl B0 H0 as0 Bk B2 H2 as' σ' hl f2 c2 g2 _ ⟨?_, mm.rt, ?_, ?_, mm.ok⟩
    · exact fun env4 S4 B4 H4 as4 σ4 f4 c4 g4 ⟨m', hm, h⟩ => ⟨m', hm, env4, S4, B4, as4, f4, c4, g4, h⟩
    · exact fun env4 S4 B4 H4 as4 σ4 f4 c4 g4 p4 => mm.nx env4 S4 B4 H4 as4 σ4 f4 c4 g4 p4
    · exact fun env4 S4 B4 H4 as4 σ4 f4 c4 g4 ⟨m', hm, h⟩ => ⟨m', hm, env4, S4, B4, as4, f4, c4, g4, h⟩
/-! ### a dict whose keys are rows -/
/-- x = {} -/
theorem sp_setD (q : SP K n u (env.set i (some (.c S.length))) (S ++ [.dic []]) P) : SP K n (tSeq (tAsg tDNewT (gName i)) u) env S P := fun B0 H0 as0 Bk B H as σ hl f c g D m => fun p hp => by
  have hB := c.Bnone hp
  have hpa := c.fresh hp
  have c2 : Ok K B (upd H p (.dT [])) as S := c.other hB hpa
  have e2 : Evo B H as B (upd H p (.dT [])) := Evo.refl.other (.of hp)
  refine q B0 H0 as0 Bk B _ (as ++ [p]) _ hl ((f.step e2).push (f.evo.old hp)) (c2.push hB hpa ⟨_, upd_same, rfl⟩) ((g.grow).set i ⟨p, by rw [← c.len]; simp, rfl⟩) D m
theorem key_ints {k : List Int} : (k.map (Sum.inl : Int → L2.Key)).map kV = k.map V.int := by rw [List.map_map]; rfl
def insK (ks : List (List Int)) (k : List Int) : List (List Int) := if k ∈ ks then ks else ks ++ [k]
theorem inl_inj {a b : List Int} (h : a.map (Sum.inl : Int → L2.Key) = b.map Sum.inl) : a = b := (List.map_inj_right fun _ _ z => Sum.inl.inj z).mp h
theorem putK_keys {kvs : List (List L2.Key × V)} {ks : List (List Int)} {k : List Int} {v : V} (h : kvs.map (·.1) = ks.map fun k => k.map Sum.inl) : (putK kvs (k.map Sum.inl) v).map (·.1) = (insK ks k).map fun k => k.map Sum.inl := by
  have hm : (kvs.any fun kv => decide (kv.1 = k.map Sum.inl)) = true ↔ k ∈ ks := by
    rw [List.any_eq_true]
    constructor
    · rintro ⟨kv, hkv, e⟩
      have : kv.1 ∈ kvs.map (·.1) := List.mem_map.mpr ⟨kv, hkv, rfl⟩
      rw [h] at this
      obtain ⟨k2, hk2, e2⟩ := List.mem_map.mp this
      have e3 : kv.1 = k.map Sum.inl := by simpa using e
      rw [e3] at e2
      rw [← inl_inj e2]; exact hk2
    · intro hk
      have : k.map Sum.inl ∈ kvs.map (·.1) := by rw [h]; exact List.mem_map.mpr ⟨k, hk, rfl⟩
      obtain ⟨kv, hkv, e⟩ := List.mem_map.mp this
      exact ⟨kv, hkv, by simpa using e⟩
  unfold putK insK
  by_cases hk : k ∈ ks
  · rw [if_pos (hm.mpr hk), if_pos hk, ← h, List.map_map]
    refine List.map_congr_left fun kv _ => ?_
    show (if kv.1 = k.map Sum.inl then (kv.1, v) else kv).1 = kv.1
    split <;> rfl
  · rw [if_neg (fun z => hk (hm.mp z)), if_neg hk, List.map_append, List.map_append, h]
    rfl
/-- d[tuple(xs)] = e, xs a new list of numbers -/
theorem sp_stD1 {ks : List (List Int)} {ns : List Int} (h : Ev K te env S (.d d) S1) (ho : Ev K to env S1 (.c k) S2) (hx : EvN K ti env S2 (ns.map Dat.int) S3) (hs : S3[k]? = some (.dic ks)) (hl : ks.length < sizeLine) (hq : P.nx env (S3.set k (.dic (insK ks ns)))) :
    SP K n (tAsg te (gSub to (tCB (rTupD K) (tCons ti tNil)) rSetD)) env S P := fun B0 H0 as0 Bk B H as σ hl0 f0 c g D m =>
  h B H as σ c g _ fun v B1 H1 c1 e1 r1 => ho B1 H1 as σ c1 (g.mono e1.ex) _ fun w B2 H2 c2 e2 r2 => hx B2 H2 as σ c2 (g.mono (e1.trans e2).ex) _ fun l B3 H3 vs c3 e3 hl2 hb3 hl3 r3 => by
    obtain ⟨p, hp, rfl⟩ := r2
    have ei := r3.ints
    subst ei
    refine ⟨l, _, rfl, .inl ⟨Evl.sq_of hl3, fun tp htp => ?_⟩⟩
    have hpt : tp ∉ as := c3.fresh htp
    have c4 := c3.new (o := .tup (ns.map V.int)) htp
    have e4 := Evo.new (o := .tup (ns.map V.int)) c3 htp
    obtain ⟨kvs, hkv, hks⟩ := (c4.cells k p _ hp hs).2.dic
    have e05 := (((e1.trans e2).trans e3).trans e4).trans (Evo.setc (o := .dT (putK kvs (ns.map Sum.inl) v)) (List.mem_of_getElem? hp) hkv (fun _ z => nomatch z))
    refine ⟨p, _, rfl, .inr ⟨kvs, ns.map Sum.inl, tp, hkv, rfl, by rw [key_ints]; exact upd_same, ?_, rfl⟩, ?_⟩
    · have := congrArg List.length hks
      rw [List.length_map, List.length_map] at this
      omega
    · exact m.nx _ _ _ _ as σ (f0.step e05) (c4.setc hp (show CellO K _ (.dT _) (.dic _) from putK_keys hks)) (g.mono e05.ex) hq
/-- sorted(d): the keys, ascending -/
theorem en_sortD {ks : List (List Int)} {dn : Nat} (h : Ev K to env S (.c k) S1) (hs : S1[k]? = some (.dic ks)) (hd : 1 ≤ dn) (hk : ∀ r ∈ ks, r.length = dn) (hl : ks.length < 64) {rows : List (List Int)}
    (hu : ∀ rs : List (List Int), rs.Perm ks → rs.Pairwise (fun x y => RwS.lx y x = false) → rs = rows) :
    EvN K (tCB RwS.rSortedDT (tCons to tNil)) env S (rows.map fun r => Dat.tup (r.map Dat.int)) S1 := fun B H as σ c g Q q =>
  h B H as σ c g _ fun v B1 H1 c1 e1 r1 => by
    obtain ⟨p, hp, rfl⟩ := r1
    obtain ⟨kvs, hkv, hks⟩ := (c1.cells k p _ hp hs).2.dic
    refine ⟨p, kvs, ks, dn, rfl, hkv, hks, hd, hk, hl, fun L w l1 l2 l3 hw => ?_⟩
    have er := hu _ l2 (List.pairwise_map.mpr l3)
    -- what the keys are is known from now on
    have hcell : ∀ a ∈ L.map (·.1), a ∉ as := fun a ha hm => by
      obtain ⟨r, hr, rfl⟩ := List.mem_map.mp ha
      obtain ⟨j, hj⟩ := List.mem_iff_getElem?.mp hm
      have hjl : j < S1.length := by rw [← c1.len]; exact (List.getElem?_eq_some_iff.mp hj).1
      obtain ⟨_, o, ho, hco⟩ := c1.cells j _ _ hj (List.getElem?_eq_getElem hjl)
      rw [l1 r hr] at ho
      cases ho
      exact hco
    let B2 : Hp := fun a => if a ∈ L.map (·.1) then H1 a else B1 a
    have hin : ∀ a, a ∈ L.map (·.1) → B2 a = H1 a := fun a ha => if_pos ha
    have hout : ∀ a, a ∉ L.map (·.1) → B2 a = B1 a := fun a ha => if_neg ha
    have ex12 : Ex B1 B2 := fun a o e => by
      by_cases ha : a ∈ L.map (·.1)
      · rw [hin a ha]; exact c1.ex a o e
      · rw [hout a ha]; exact e
    have c2 : Ok K B2 H1 as S1 := ⟨fun a o e => by
      by_cases ha : a ∈ L.map (·.1)
      · rw [hin a ha] at e; exact e
      · rw [hout a ha] at e; exact c1.ex a o e, c1.len, fun j a s h1 h2 => by
      obtain ⟨q1, o, q2, q3⟩ := c1.cells j a s h1 h2
      exact ⟨by rw [hout a (fun ha => hcell a ha (List.mem_of_getElem? h1))]; exact q1, o, q2, q3.mono ex12⟩, c1.nd, c1.lk, fun a ps e => by
      by_cases ha : a ∈ L.map (·.1)
      · rw [hin a ha] at e
        obtain ⟨r, hr, rfl⟩ := List.mem_map.mp ha
        rw [l1 r hr] at e; cases e
      · rw [hout a ha] at e; exact c1.ntb a ps e, c1.tb⟩
    have e12 : Evo B1 H1 as B2 H1 := ⟨ex12, fun _ _ _ h _ => h, fun a _ _ _ => by
      by_cases ha : a ∈ L.map (·.1)
      · obtain ⟨r, hr, rfl⟩ := List.mem_map.mp ha
        exact .inr ⟨_, .inl ⟨_, rfl⟩, l1 r hr⟩
      · exact .inl (hout a ha), fun _ _ _ h => h, fun _ o h nt => ⟨o, h, nt⟩⟩
    refine evn_new c c2 (e1.trans e12) hw ?_ q
    rw [← er, List.map_map]
    have key : ∀ M : List (Addr × List Int), (∀ r ∈ M, r ∈ L) → Reps K B2 (M.map fun r => V.ref r.1) (M.map ((fun r => Dat.tup (r.map Dat.int)) ∘ fun r => r.2)) := by
      intro M
      induction M with
      | nil => intro _; exact .nil
      | cons r M ih =>
        intro hM
        have hr := hM r List.mem_cons_self
        have hb2 : B2 r.1 = some (.tup (r.2.map V.int)) := by
          rw [hin _ (List.mem_map.mpr ⟨r, hr, rfl⟩)]
          exact l1 r hr
        exact .cons (.tup (Evl.st_of hb2) (reps_ints r.2) (.inl hb2)) (ih fun s hs => hM s (List.mem_cons_of_mem _ hs))
    exact key L fun r hr => hr
end
end RW

set_option Elab.async false
set_option linter.all false
set_option maxRecDepth 100000
set_option maxHeartbeats 4000000
namespace RW
open PySem PySem.Spec PyProof.Rows L2
open Evl (Ex)
section
variable {K : PySem.W.Frag} {n : Nat} {te ta tb tc to ti tv : TE} {env env' : Env1} {S S1 S2 S3 : List Dat} {x y z : Sl} {d e : Dat} {ds es : List Dat} {P P' : Post} {t u : TS}
  {B B0 B1 B2 B' H H0 H1 H2 H' : Hp} {as as0 as1 : List Addr} {D : Ends} {σ : L2.St} {i j k : Nat}
/-- a, b = [..], e: a is a new list that will be changed -/
theorem sp_parC (h : EvN K ta env S ds S1) (hv : Ev K tb env S1 y S2) (q : SP K n u ((env.set j (some (.c S2.length))).set k (some y)) (S2 ++ [.lst ds]) P) :
    SP K n (tSeq (tPar j k (tCons ta (tCons tb tNil))) u) env S P := fun B0 H0 as0 Bk B H as σ hl f c g D m =>
  h B H as σ c g _ fun p B1 H1 vs c1 e1 hp hb h1 r1 => hv B1 H1 as σ c1 (g.mono e1.ex) _ fun w B2 H2 c2 e2 r2 => by
    have hpa : p ∉ as := hp.1
    obtain ⟨k1, k2⟩ := e2.kept hpa h1 hb
    have e03 := e1.trans e2
    exact ⟨_, _, rfl, q B0 H0 as0 Bk _ _ (as ++ [p]) _ hl ((f.step e03).push (f.evo.oldN hp.2)) (c2.push k2 hpa (.ofL k1 (r1.mono e2.ex))) (((g.mono e03.ex).grow.set (s := .c S2.length) j ⟨p, by rw [← c2.len]; simp, rfl⟩).set k r2.grow) D m⟩
/-- a, b = e, [..]: b is a new list that will be changed -/
theorem sp_parVC (hv : Ev K ta env S y S1) (h : EvN K tb env S1 ds S2) (q : SP K n u ((env.set j (some y)).set k (some (.c S2.length))) (S2 ++ [.lst ds]) P) :
    SP K n (tSeq (tPar j k (tCons ta (tCons tb tNil))) u) env S P := fun B0 H0 as0 Bk B H as σ hl f c g D m =>
  hv B H as σ c g _ fun w B1 H1 c1 e1 r1 => h B1 H1 as σ c1 (g.mono e1.ex) _ fun p B2 H2 vs c2 e2 hp hb h2 r2 => by
    have hpa : p ∉ as := hp.1
    have e03 := e1.trans e2
    exact ⟨_, _, rfl, q B0 H0 as0 Bk _ _ (as ++ [p]) _ hl ((f.step e03).push (f.evo.oldN (e1.oldN hp.2))) (c2.push hb hpa (.ofL h2 r2)) (((g.mono e03.ex).grow.set j (r1.mono e2.ex).grow).set (s := .c S2.length) k ⟨p, by rw [← c2.len]; simp, rfl⟩) D m⟩
end
end RW

set_option Elab.async false
set_option linter.all false
set_option maxRecDepth 100000
set_option maxHeartbeats 4000000
namespace RW
open PySem PySem.Spec PyProof.Rows L2
open Evl (Ex)
/-! ### how a def ends: a value, or an exception of the class at C with what it keeps -/
inductive Out where
  | val (r : Dat)
  | exc (C : Addr) (p : Option (Str × Dat))
def Pay (K : PySem.W.Frag) (B H : Hp) (d : Option Addr) : Option (Str × Dat) → Prop
  | none => d = none
  | some (f, x) => ∃ dd v, d = some dd ∧ H dd = some (.xd [(f, v)]) ∧ Rep K B v x
def XOk (K : PySem.W.Frag) (E : XK) (o : Out) (S' : List Dat) : Hp → Hp → List Addr → Prop := fun B0 H0 as0 =>
  ∀ C p, o = .exc C p → ∀ d B' H', Ok K B' H' as0 S' → Evo B0 H0 as0 B' H' → Pay K B' H' d p → E (.ref C) d H'
def SpR (K : PySem.W.Frag) (G : List Sl → List Dat → Out → List Dat → Prop) : Sp := fun vs H Q E => ∃ B as S ss o S', Ok K B H as S ∧ RepSs K B as vs ss ∧ G ss S o S' ∧
  (∀ r, o = .val r → ∀ v B' H', Ok K B' H' as S' → Evo B H as B' H' → Rep K B' v r → Q v H') ∧ XOk K E o S' B H as
section
variable {K : PySem.W.Frag} {n : Nat} {te ta tb tc to ti : TE} {tt tu : TT} {tA tR : TA} {env env' env1 : Env1} {S S1 S2 S3 : List Dat} {x y z : Sl} {d e : Dat} {ds es : List Dat} {r r' : R2} {P P' : Post} {t u : TS}
  {B B0 B1 B2 B' H H0 H1 H2 H' : Hp} {as as0 as1 : List Addr} {D : Ends} {σ : L2.St} {i k : Nat} {a b c : Bool} {E : XK} {C : Addr} {p : Option (Str × Dat)} {o : Out}
  {G : List Sl → List Dat → Out → List Dat → Prop}
theorem sp_bodyR {N : List Str} {vs : List V} {Q : VK} (h : SpR K G vs H Q E)
    (k : ∀ ss S o S', G ss S o S' → SP K S.length t (ss.map some ++ List.replicate (N.length - ss.length) none) S { rt := fun r' T => o = .val r' ∧ T = S', nx := fun _ T => o = .val .non ∧ T.take S.length = S', ok := XOk K E o S' }) :
    t { nx := fun _ H' => Q .non H', rt := Q } (start N vs) H := by
  obtain ⟨B, as, S, ss, o, S', c, rs, g, q, qx⟩ := h
  refine k ss S o S' g B H as B B H as _ c.len ⟨Evl.Ex.refl B, List.take_length, Evo.refl, fun a ha => ?_⟩ c (EnvR.start rs) _ ⟨fun env' T B' H' as' σ' f c' g' ⟨p1, p2⟩ => ?_, fun v r' T B' H' c' e' r1 ⟨p1, p2⟩ => ?_, fun _ _ _ _ _ _ _ _ _ p => p.elim, fun _ _ _ _ _ _ _ _ _ p => p.elim, qx⟩
  · rw [List.drop_length] at ha; cases ha
  · have c2 := c'.upto as.length
    rw [f.base, c.len, p2] at c2
    exact q .non p1 .non B' H' c2 f.evo .non
  · subst p2
    exact q r' p1 v B' H' c' e' r1
theorem spr_len {k : Nat} (h : ∀ ss S r S', G ss S r S' → ss.length = k) : ∀ vs H Q E, SpR K G vs H Q E → vs.length = k := fun vs H Q E q => by
  obtain ⟨B, as, S, ss, r, S', c, rs, g, _⟩ := q
  rw [rs.length]
  exact h ss S r S' g
/-! ### expressions that raise -/
def XWant (K : PySem.W.Frag) (E : XK) (B H : Hp) (as : List Addr) (C : Addr) (p : Option (Str × Dat)) (S1 : List Dat) : Prop :=
  ∀ d B' H', Ok K B' H' as S1 → Evo B H as B' H' → Pay K B' H' d p → E (.ref C) d H'
def EvX (K : PySem.W.Frag) (E : XK) (te : TE) (env : Env1) (S : List Dat) (C : Addr) (p : Option (Str × Dat)) (S1 : List Dat) : Prop :=
  ∀ B H as σ, Ok K B H as S → EnvR K B as σ env → XWant K E B H as C p S1 → ∀ Q, te σ H Q
def EvXT (K : PySem.W.Frag) (E : XK) (tt : TT) (env : Env1) (S : List Dat) (C : Addr) (p : Option (Str × Dat)) (S1 : List Dat) : Prop :=
  ∀ B H as σ, Ok K B H as S → EnvR K B as σ env → XWant K E B H as C p S1 → ∀ Q, tt σ H Q
def EvXA (K : PySem.W.Frag) (E : XK) (tA : TA) (env : Env1) (S : List Dat) (C : Addr) (p : Option (Str × Dat)) (S1 : List Dat) : Prop :=
  ∀ B H as σ, Ok K B H as S → EnvR K B as σ env → XWant K E B H as C p S1 → ∀ Q, tA σ H Q
theorem XWant.step {S' : List Dat} (w : XWant K E B H as C p S1) (e : Evo B H as B1 H1) : XWant K E B1 H1 as C p S1 := fun d B' H' c e1 pa => w d B' H' c (e.trans e1) pa
/-- a call that gives a value -/
theorem ev_callR {ss : List Sl} (h : EvA K tA env S ss S1) (hg : G ss S1 (.val d) S2) : Ev K (tCall (SpR K G) [] E tA) env S (.d d) S2 := fun B H as σ c g Q q =>
  h B H as σ c g _ fun vs B1 H1 c1 e1 r1 => ⟨B1, as, S1, ss, .val d, S2, c1, by rw [List.append_nil]; exact r1, hg, fun r er v B2 H2 c2 e2 r2 => by cases er; exact q v B2 H2 c2 (e1.trans e2) r2, fun _ _ z => nomatch z⟩
theorem ev_callX {ss : List Sl} (h : EvA K tA env S ss S1) (hg : G ss S1 (.exc C p) S2) : EvX K E (tCall (SpR K G) [] E tA) env S C p S2 := fun B H as σ c g w Q =>
  h B H as σ c g _ fun vs B1 H1 c1 e1 r1 => ⟨B1, as, S1, ss, .exc C p, S2, c1, by rw [List.append_nil]; exact r1, hg, fun r er => (nomatch er), fun C' p' z d B2 H2 c2 e2 pa => by cases z; exact w d B2 H2 c2 (e1.trans e2) pa⟩
theorem evx_op1 (ha : EvX K E ta env S C p S1) : EvX K E (tOp r ta tb) env S C p S1 := fun B H as σ c g w Q => ha B H as σ c g w _
theorem evx_op2 (ha : Ev K ta env S x S1) (hb : EvX K E tb env S1 C p S2) : EvX K E (tOp r ta tb) env S C p S2 := fun B H as σ c g w Q =>
  ha B H as σ c g _ fun v B1 H1 c1 e1 r1 => hb B1 H1 as σ c1 (g.mono e1.ex) (w.step (S' := S) e1) _
theorem evxa_1 (ha : EvX K E ta env S C p S1) : EvXA K E (tCons ta tA) env S C p S1 := fun B H as σ c g w Q => ha B H as σ c g w _
theorem evxa_2 (ha : Ev K ta env S x S1) (hb : EvXA K E tA env S1 C p S2) : EvXA K E (tCons ta tA) env S C p S2 := fun B H as σ c g w Q =>
  ha B H as σ c g _ fun v B1 H1 c1 e1 r1 => hb B1 H1 as σ c1 (g.mono e1.ex) (w.step (S' := S) e1) _
theorem evx_cb {r : List V → Hp → VK → Prop} (ha : EvXA K E tA env S C p S1) : EvX K E (tCB r tA) env S C p S1 := fun B H as σ c g w Q => ha B H as σ c g w _
theorem evx_callA {sp : Sp} {dvs : List V} {E' : XK} (ha : EvXA K E tA env S C p S1) : EvX K E (tCall sp dvs E' tA) env S C p S1 := fun B H as σ c g w Q => ha B H as σ c g w _
theorem evxt_B (ha : EvX K E te env S C p S1) : EvXT K E (tB te) env S C p S1 := fun B H as σ c g w Q => ha B H as σ c g w _
theorem evxt_test (ha : EvX K E te env S C p S1) : EvXT K E (tTest te) env S C p S1 := fun B H as σ c g w Q => ha B H as σ c g w _
theorem evxt_tru {K' : PySem.W.Frag} (ha : EvX K E te env S C p S1) : EvXT K E (tTru K' te) env S C p S1 := fun B H as σ c g w Q => ha B H as σ c g w _
theorem evxt_not (ha : EvXT K E tt env S C p S1) : EvXT K E (tNot tt) env S C p S1 := fun B H as σ c g w Q => ha B H as σ c g w _
theorem evxt_and1 (ha : EvXT K E tt env S C p S1) : EvXT K E (tAnd tt tu) env S C p S1 := fun B H as σ c g w Q => ha B H as σ c g w _
theorem evxt_or1 (ha : EvXT K E tt env S C p S1) : EvXT K E (tOr tt tu) env S C p S1 := fun B H as σ c g w Q => ha B H as σ c g w _
theorem evxt_or2 (h : EvT K tt env S false S1) (hb : EvXT K E tu env S1 C p S2) : EvXT K E (tOr tt tu) env S C p S2 := fun B H as σ c g w Q =>
  h B H as σ c g _ fun B1 H1 c1 e1 => hb B1 H1 as σ c1 (g.mono e1.ex) (w.step (S' := S) e1) _
theorem evxt_and2 (h : EvT K tt env S true S1) (hb : EvXT K E tu env S1 C p S2) : EvXT K E (tAnd tt tu) env S C p S2 := fun B H as σ c g w Q =>
  h B H as σ c g _ fun B1 H1 c1 e1 => hb B1 H1 as σ c1 (g.mono e1.ex) (w.step (S' := S) e1) _
theorem evx_if (h : EvT K tt env S b S1) (h1 : b = true → EvX K E ta env S1 C p S2) (h2 : b = false → EvX K E tb env S1 C p S2) : EvX K E (tIf tt ta tb) env S C p S2 := fun B H as σ c g w Q =>
  h B H as σ c g _ fun B1 H1 c1 e1 => by
    cases b with
    | true => exact h1 rfl B1 H1 as σ c1 (g.mono e1.ex) (w.step (S' := S) e1) Q
    | false => exact h2 rfl B1 H1 as σ c1 (g.mono e1.ex) (w.step (S' := S) e1) Q
/-! ### statements that raise: what is wanted of exceptions stands in P.ok -/
theorem Meets.want {Bk : Hp} (m : Meets K B0 H0 as0 Bk D P) (hP : P.ok = XOk K E (.exc C p) S2) (f : Fr B0 H0 as0 Bk B H as) (hl : as0.length = n) (hS : S1.take n = S2) : XWant K E B H as C p S1 := fun d B' H' c' e' pa => by
  have ok := m.ok
  rw [hP] at ok
  have f1 := f.step e'
  have c2 := c'.upto as0.length
  rw [f1.base, hl, hS] at c2
  exact ok C p rfl d B' H' c2 f1.evo pa
theorem sp_dropX (h : EvX K E te env S C p S1) (hP : P.ok = XOk K E (.exc C p) (S1.take n)) : SP K n (tDrop te) env S P := fun B0 H0 as0 Bk B H as σ hl f c g D m => h B H as σ c g (m.want hP f hl rfl) _
theorem sp_dropXq (h : EvX K E te env S C p S1) (hP : P.ok = XOk K E (.exc C p) (S1.take n)) : SP K n (tSeq (tDrop te) u) env S P := fun B0 H0 as0 Bk B H as σ hl f c g D m => h B H as σ c g (m.want hP f hl rfl) _
theorem sp_asgX {g : TG} (h : EvX K E te env S C p S1) (hP : P.ok = XOk K E (.exc C p) (S1.take n)) : SP K n (tAsg te g) env S P := fun B0 H0 as0 Bk B H as σ hl f c g D m => h B H as σ c g (m.want hP f hl rfl) _
theorem sp_asgXq {g : TG} (h : EvX K E te env S C p S1) (hP : P.ok = XOk K E (.exc C p) (S1.take n)) : SP K n (tSeq (tAsg te g) u) env S P := fun B0 H0 as0 Bk B H as σ hl f c g D m => h B H as σ c g (m.want hP f hl rfl) _
theorem sp_retX (h : EvX K E te env S C p S1) (hP : P.ok = XOk K E (.exc C p) (S1.take n)) : SP K n (tRet te) env S P := fun B0 H0 as0 Bk B H as σ hl f c g D m => h B H as σ c g (m.want hP f hl rfl) _
theorem sp_ifX (h : EvXT K E tt env S C p S1) (hP : P.ok = XOk K E (.exc C p) (S1.take n)) : SP K n (tIfS tt t u) env S P := fun B0 H0 as0 Bk B H as σ hl f c g D m => h B H as σ c g (m.want hP f hl rfl) _
theorem sp_ifXq {v : TS} (h : EvXT K E tt env S C p S1) (hP : P.ok = XOk K E (.exc C p) (S1.take n)) : SP K n (tSeq (tIfS tt t u) v) env S P := fun B0 H0 as0 Bk B H as σ hl f c g D m => h B H as σ c g (m.want hP f hl rfl) _
/-- raise X('..') -/
theorem sp_raise0 (hP : P.ok = XOk K E (.exc C none) (S.take n)) : SP K n (fun _ _ H => E (.ref C) none H) env S P := fun B0 H0 as0 Bk B H as σ hl f c g D m => m.want hP f hl rfl none B H c Evo.refl rfl
theorem sp_raise0q (hP : P.ok = XOk K E (.exc C none) (S.take n)) : SP K n (tSeq (fun _ _ H => E (.ref C) none H) u) env S P := fun B0 H0 as0 Bk B H as σ hl f c g D m => m.want hP f hl rfl none B H c Evo.refl rfl
end
/-! ### an exception that keeps a value -/
/-- __init__(self, v): self.f = v -/
def spXi (K : PySem.W.Frag) (C : Addr) (f : Str) : Sp := fun vs H Q _ => ∃ (a : Addr) (v : V), vs = [.ref a, v] ∧ OexC K C ∧ PySem.W.findIn K (.ref C) f = some none ∧ H a = some (exo a C none) ∧ ∀ dx, H dx = none → dx ≠ a → Q .non (upd (upd H dx (exd dx [(f, v)])) a (exo a C (some dx)))
theorem spxi_len {K : PySem.W.Frag} {C : Addr} {f : Str} : ∀ vs H Q E, spXi K C f vs H Q E → vs.length = 2 := fun vs H Q E ⟨a, v, e, _⟩ => by rw [e]; rfl
theorem spxi_body {K : PySem.W.Frag} {C : Addr} {f : Str} {N : List Str} {vs : List V} {H : Hp} {Q : VK} {E : XK} (h : spXi K C f vs H Q E) (hN : N.length = 2) : tOst K f (tVar 0) (tVar 1) { nx := fun _ H' => Q .non H', rt := Q } (start N vs) H := by
  obtain ⟨a, v, rfl, h1, h2, h3, q⟩ := h
  have e0 : (start N [V.ref a, v])[0]? = some (some (V.ref a)) := rfl
  have e1 : (start N [V.ref a, v])[1]? = some (some v) := rfl
  exact ⟨v, e1, _, e0, a, C, rfl, h1, h2, .inl ⟨h3, q⟩⟩
section
variable {K : PySem.W.Frag} {n : Nat} {tA : TA} {env : Env1} {S S1 : List Dat} {d : Dat} {P : Post} {u : TS} {E : XK} {C : Addr} {f : Str}
theorem xd_end {H1 : Hp} {a d : Addr} {u v w : HO} (ha : H1 a = none) (hd : d ≠ a) : upd (del (upd (upd (upd H1 a u) d v) a w) a) d (.xd fs) = upd H1 d (.xd fs) := by
  funext b
  by_cases hb : b = d
  · rw [hb, upd_same, upd_same]
  · rw [upd_ne hb, upd_ne hb]
    by_cases hba : b = a
    · rw [hba, del_same, ha]
    · rw [del_ne hba, upd_ne hba, upd_ne hb, upd_ne hba]
theorem mko_want {B H : Hp} {as : List Addr} {σ : L2.St} (h : EvA K tA env S [.d d] S1) (oc : OexC K C) (hf : PySem.W.findIn K (.ref C) f = some none) (c : Ok K B H as S) (g : EnvR K B as σ env) (w : XWant K E B H as C (some (f, d)) S1) :
    tMkO C (spXi K C f) [] tA σ H fun cls d H' => E cls d H' := h B H as σ c g _ fun vs B1 H1 c1 e1 r1 => by
  cases r1 with
  | cons r1 rr =>
    rename_i v vs'
    cases rr
    refine ⟨by show 1 ≤ 1000; decide, fun a ha => ⟨a, v, rfl, oc, hf, upd_same, fun dx hdx hne => ⟨rfl, dx, [(f, v)], upd_same, by rw [upd_ne hne, upd_same], by rw [upd_ne hne] at hdx; exact hdx, ?_⟩⟩⟩
    rw [upd_ne hne] at hdx
    rw [xd_end ha hne]
    have hB := c1.Bnone hdx
    exact w (some dx) B1 _ (c1.other hB (c1.fresh hdx)) (e1.trans (Evo.refl.other (.of hdx))) ⟨dx, v, rfl, upd_same, r1⟩
/-- raise X(e) -/
theorem sp_raise1 (h : EvA K tA env S [.d d] S1) (oc : OexC K C) (hf : PySem.W.findIn K (.ref C) f = some none) (hP : P.ok = XOk K E (.exc C (some (f, d))) (S1.take n)) : SP K n (fun _ σ H => tMkO C (spXi K C f) [] tA σ H fun cls d H' => E cls d H') env S P :=
  fun B0 H0 as0 Bk B H as σ hl f0 c g D m => mko_want h oc hf c g (m.want hP f0 hl rfl)
theorem sp_raise1q (h : EvA K tA env S [.d d] S1) (oc : OexC K C) (hf : PySem.W.findIn K (.ref C) f = some none) (hP : P.ok = XOk K E (.exc C (some (f, d))) (S1.take n)) : SP K n (tSeq (fun _ σ H => tMkO C (spXi K C f) [] tA σ H fun cls d H' => E cls d H') u) env S P :=
  fun B0 H0 as0 Bk B H as σ hl f0 c g D m => mko_want h oc hf c g (m.want hP f0 hl rfl)
end
end RW

set_option Elab.async false
set_option linter.all false
set_option maxRecDepth 100000
set_option maxHeartbeats 4000000
namespace RW
open PySem PySem.Spec PyProof.Rows L2
open Evl (Ex)
/-! ### tables of code objects among what is changed -/
section
variable {K : PySem.W.Frag} {env : Env1} {S S1 S2 : List Dat} {B B1 H H1 : Hp} {as : List Addr} {σ : L2.St}
def TabsD (T : List (Addr × Str)) (S : List Dat) : Prop := ∀ p ∈ T, ∃ k : Nat, S[k]? = some (.tab p.1 p.2)
theorem codeO_tbl {c : Addr} {q : Str} (ps : Array Value) : LamX.CodeO c q ≠ .tbl ps := LamX.codeO_ne ps
theorem Ok.tabAt (c : Ok K B H as S) {k : Nat} {P : Addr} {q : Str} (h : S[k]? = some (.tab P q)) : as[k]? = some P ∧ B P = none ∧ ∃ ps, H P = some (.tbl ps) ∧ TriplesOk ps.toList ∧ ∀ (pos : Pos) (cv : Value), codeAmong pos ps.toList = some cv → ∃ c, cv = .ref c ∧ B c = some (LamX.CodeO c q) := by
  have ha := c.tb k _ P h rfl
  obtain ⟨hb, o, ho, hc⟩ := c.cells k P _ ha h
  cases o <;> first
    | exact hc.elim
    | exact ⟨ha, hb, _, ho, hc⟩
theorem Ok.tabs {T : List (Addr × Str)} (c : Ok K B H as S) (h : TabsD T S) : LamX.Tabs T H := fun p hp => by
  obtain ⟨k, hk⟩ := h p hp
  obtain ⟨_, _, ps, h1, h2, h3⟩ := c.tabAt hk
  refine ⟨ps, h1, h2, fun pos cv hc => ?_⟩
  obtain ⟨c', e1, e2⟩ := h3 pos cv hc
  exact ⟨c', e1, c.ex _ _ e2⟩
/-- all codes are known from now on -/
noncomputable def withCodes (B H1 : Hp) : Hp := fun a => by
  classical
  exact if ∃ q, H1 a = some (LamX.CodeO a q) then H1 a else B a
theorem wc_yes {a : Addr} {q : Str} (h : H1 a = some (LamX.CodeO a q)) : withCodes B H1 a = H1 a := by
  unfold withCodes
  exact if_pos ⟨q, h⟩
theorem wc_no {a : Addr} (h : ¬ ∃ q, H1 a = some (LamX.CodeO a q)) : withCodes B H1 a = B a := by
  unfold withCodes
  exact if_neg h
theorem wc_or (a : Addr) : (withCodes B H1 a = H1 a ∧ ∃ q, H1 a = some (LamX.CodeO a q)) ∨ withCodes B H1 a = B a := by
  by_cases h : ∃ q, H1 a = some (LamX.CodeO a q)
  · obtain ⟨q, h⟩ := h
    exact .inl ⟨wc_yes h, q, h⟩
  · exact .inr (wc_no h)
/-- behind the making of a lambda: all but the tables stand, the tables are tables -/
theorem Ok.lam {T : List (Addr × Str)} (c : Ok K B H as S) (hT : TabsD T S) (hall : ∀ (k : Nat) (P : Addr) (q : Str), S[k]? = some (.tab P q) → (P, q) ∈ T) (e : LamX.ExtN H H1) (t : LamX.Tabs T H1) :
    Ok K (withCodes B H1) H1 as S ∧ Evo B H as (withCodes B H1) H1 := by
  have hBH : ∀ a o, B a = some o → H1 a = some o := fun a o h => e a o (c.ex a o h) fun ps z => c.ntb a ps (by rw [h, z])
  have ex1 : Ex B (withCodes B H1) := fun a o h => by
    rcases wc_or (B := B) (H1 := H1) a with ⟨z, _⟩ | z
    · rw [z]; exact hBH a o h
    · rw [z]; exact h
  have cellNC : ∀ (k : Nat) (a : Addr) (s : Dat), as[k]? = some a → S[k]? = some s → ¬ ∃ q, H1 a = some (LamX.CodeO a q) := fun k a s h1 h2 ⟨q, hq⟩ => by
    obtain ⟨hb, o, ho, hc⟩ := c.cells k a s h1 h2
    by_cases ht : ∃ ps, o = .tbl ps
    · obtain ⟨ps, rfl⟩ := ht
      cases s <;> first
        | exact hc.elim
        | (rename_i P q2
           have hp := c.tb k _ P h2 rfl
           rw [h1] at hp
           cases hp
           obtain ⟨ps2, h3, _⟩ := t (a, q2) (hall k a q2 h2)
           rw [hq] at h3
           exact codeO_tbl ps2 (Option.some.inj h3))
    · have := e a o ho fun ps z => ht ⟨ps, z⟩
      rw [hq] at this
      have e2 := Option.some.inj this
      unfold LamX.CodeO at e2
      subst e2
      cases s <;> exact hc.elim
  refine ⟨⟨fun a o h => ?_, c.len, fun k a s h1 h2 => ?_, c.nd, fun k a s o h1 h2 h3 => ?_, fun a ps h => ?_, c.tb⟩, ⟨ex1, fun a o hn h nt => e a o h nt, fun a o h nt => ?_, fun a o fo h => e a o h (fun ps z => by subst z; exact fo.tbl), fun a o h nt => ⟨o, e a o h nt, nt⟩⟩⟩
  · rcases wc_or (B := B) (H1 := H1) a with ⟨z, _⟩ | z
    · rw [z] at h; exact h
    · rw [z] at h; exact hBH a o h
  · obtain ⟨hb, o, ho, hc⟩ := c.cells k a s h1 h2
    refine ⟨by rw [wc_no (cellNC k a s h1 h2)]; exact hb, ?_⟩
    by_cases ht : ∃ ps, o = .tbl ps
    · obtain ⟨ps, rfl⟩ := ht
      cases s <;> first
        | exact hc.elim
        | (rename_i P q2
           have hp := c.tb k _ P h2 rfl
           rw [h1] at hp
           cases hp
           obtain ⟨ps2, h3, h4, h5⟩ := t (a, q2) (hall k a q2 h2)
           refine ⟨_, h3, h4, fun pos cv hcv => ?_⟩
           obtain ⟨c', e1, e2⟩ := h5 pos cv hcv
           exact ⟨c', e1, by rw [wc_yes e2]; exact e2⟩)
    · exact ⟨o, e a o ho fun ps z => ht ⟨ps, z⟩, hc.mono ex1⟩
  · obtain ⟨hb, o', ho, hc⟩ := c.cells k a s h1 h2
    by_cases ht : ∃ ps, o' = .tbl ps
    · obtain ⟨ps, rfl⟩ := ht
      cases s <;> first
        | exact hc.elim
        | exact fun _ _ _ _ z => nomatch z
    · have := e a o' ho fun ps z => ht ⟨ps, z⟩
      rw [h3] at this
      cases this
      exact c.lk k a s _ h1 h2 ho
  · rcases wc_or (B := B) (H1 := H1) a with ⟨z, q, hq⟩ | z
    · rw [z, hq] at h
      exact codeO_tbl ps (Option.some.inj h)
    · rw [z] at h; exact c.ntb a ps h
  · rcases wc_or (B := B) (H1 := H1) a with ⟨z, q, hq⟩ | z
    · exact .inr ⟨_, .inr ⟨a, q, rfl⟩, hq⟩
    · exact .inl z
end
end RW

set_option Elab.async false
set_option linter.all false
set_option maxRecDepth 100000
set_option maxHeartbeats 4000000
namespace RW
open PySem PySem.Spec PyProof.Rows L2
open Evl (Ex)
/-! ### try with several clauses, some of which name the exception -/
/-- a clause: its class, the slot of the name (if there is one), its suite's reading -/
abbrev Clause := Value × Option Nat × (Addr → Value → Option Addr → TS)
def unsetE (D : Ends) (i : Nat) : Ends := { nx := fun σ' H' => D.nx (σ'.set i none) H', rt := D.rt, bk := fun σ' H' => D.bk (σ'.set i none) H', ct := fun σ' H' => D.ct (σ'.set i none) H' }
def suiteRun (D : Ends) (i : Option Nat) (ts : TS) (a : Addr) (σ : L2.St) (H : Hp) : Prop := match i with
  | none => ts D σ H
  | some i => ts (unsetE D i) (σ.set i (some (.ref a))) H
def wMix (K : PySem.W.Frag) (Wout : WX) (D : Ends) : List Clause → WX
  | [] => Wout
  | (c, i, ts) :: r => fun cls d σ H => ∃ b, PySem.W.exmOne K cls c = some b ∧ (b = true → ∀ a, H a = none → suiteRun D i (ts a cls d) a σ H) ∧ (b = false → wMix K Wout D r cls d σ H)
inductive HdX (X : Cx) : List ExceptHandler → List Clause → Prop
  | nil : HdX X [] []
  | bare {x : Str} {c : Value} {ts : Addr → Value → Option Addr → TS} {b₀ : Stmt} {su : List Stmt} {np p' : Pos} {hds : List ExceptHandler} {l : List Clause} (hc : Names X x c)
      (hsu : ∀ (a : Addr) (oe : Obj) (cls : Value) (d : Option Addr) (pn : List (Addr × Obj)), Zc cls d oe → (∃ vs, oe.data = .fields vs) → PSs (X.suite a ((a, oe) :: pn)) (b₀ :: su) (ts a cls d)) (r : HdX X hds l) :
      HdX X (.ExceptHandler (some (.Name x np)) none (b₀ :: su) p' :: hds) ((c, none, ts) :: l)
  | named {x m : Str} {i : Nat} {c : Value} {ts : Addr → Value → Option Addr → TS} {b₀ : Stmt} {su : List Stmt} {np p' : Pos} {hds : List ExceptHandler} {l : List Clause} (hc : Names X x c) (hN : X.N.Nodup) (hi : X.N[i]? = some m) (hm : X.env.kindOf m = some .local)
      (hsu : ∀ (a : Addr) (oe : Obj) (cls : Value) (d : Option Addr) (pn : List (Addr × Obj)), Zc cls d oe → (∃ vs, oe.data = .fields vs) → PSs (X.suite a ((a, oe) :: pn)) (b₀ :: su) (ts a cls d)) (r : HdX X hds l) :
      HdX X (.ExceptHandler (some (.Name x np)) (some m) (b₀ :: su) p' :: hds) ((c, some i, ts) :: l)
section
variable {X : Cx} {body : List Stmt} {h₀ : ExceptHandler} {hds : List ExceptHandler} {l : List Clause} {pos : Pos} {tb : WX → TS} {Wout : WX}
/-- a caught exception at a, on the ground -/
structure Caught (X : Cx) (pins : List (Addr × Obj)) (a : Addr) (B : Heap) (sI : Shared) (σ : L2.St) (H : Hp) (cls : Value) (d : Option Addr) (s' : Shared) : Prop where
  J : Inv X pins σ H sI
  nb : ∀ b o, sI.heap.get? b = some o → b ∉ frs X.stack → B.get? b = some o
  fl : HandSPX.FlyingZ B (X.env :: X.outer) a (Zc cls d) s'.heap
  up : sI.heap.UpToSlots s'.heap
  na : H a = none
  os : s'.os = sI.os
  ag : AllBare s'.gens
theorem Caught.inv {pins : List (Addr × Obj)} {a : Addr} {B : Heap} {sI : Shared} {σ : L2.St} {H : Hp} {cls : Value} {d : Option Addr} {s' : Shared} (C : Caught X pins a B sI σ H cls d s') : Inv X pins σ H s' := C.J.landed C.nb C.fl.1 C.up C.os C.ag
theorem Caught.off {pins : List (Addr × Obj)} {a : Addr} {B : Heap} {sI : Shared} {σ : L2.St} {H : Hp} {cls : Value} {d : Option Addr} {s' : Shared} (C : Caught X pins a B sI σ H cls d s') (hf : X.env.frame = some X.env.locals) : a ≠ X.env.locals ∧ a ∉ X.fs := by
  obtain ⟨o, vs, ho, _, hd⟩ := C.fl.there
  have nfr : a ∉ frs (X.env :: X.outer) := fun hm => by
    obtain ⟨_, o', e', hnf⟩ := C.fl.2.2.1.mem hm
    rw [ho] at e'; cases e'
    exact hnf _ hd
  refine ⟨fun z => nfr (List.mem_filterMap.mpr ⟨X.env, List.mem_cons_self, by rw [hf, z]⟩), fun hm => ?_⟩
  obtain ⟨e, he, q⟩ := List.mem_filterMap.mp hm
  exact nfr (List.mem_filterMap.mpr ⟨e, List.mem_cons_of_mem _ he, q⟩)
theorem handle_mix (hs : X.stack = X.env :: X.outer) (hf : X.env.frame = some X.env.locals) (tk : Takes X Wout) {pins : List (Addr × Obj)} {D : Ends} {a : Addr} {B : Heap} {sI : Shared} {σ : L2.St} {H : Hp} {cls : Value} {d : Option Addr} :
    ∀ {hds : List ExceptHandler} {l : List Clause}, HdX X hds l → ∀ {s' : Shared}, Caught X pins a B sI σ H cls d s' → wMix X.K Wout D l cls d σ H → wpAny (model X.prog X.w) X.A (handleBy (.ref a) X.env hds) (L2.SP X pins D) X.xe s' := by
  intro hds l hk
  have suites : ∀ {s' : Shared} {b₀ : Stmt} {su : List Stmt} {ts : TS} {oe : Obj} {E : Ends} {σ1 : L2.St} {s1 : Shared} {R : Flow → Shared → Prop} {E' : Value → Shared → Prop}, PSs (X.suite a ((a, oe) :: (X.pn ++ pins))) (b₀ :: su) ts → Inv (X.suite a ((a, oe) :: (X.pn ++ pins))) [] σ1 H s1 → ts E σ1 H →
      (∀ f s2, L2.SP (X.suite a ((a, oe) :: (X.pn ++ pins))) [] E f s2 → R f s2) → wpAny (model X.prog X.w) (X.A.mark (some (.ref a))) (execs (b₀ :: su) X.env) R E' s1 := fun hp I ht k =>
    wpAny_mono (hp.run [] _ _ H _ I ht) (fun f s2 q => k f s2 q) fun _ _ z => False.elim z
  induction hk with
  | nil =>
    intro s' C w
    refine wpAny_handleBy_nil ?_
    have fl3 := C.fl
    obtain ⟨_, _, _, oe, vs, T, oT, ts', he, hz, hd, h1, hr⟩ := id fl3
    unfold PySem.passOn
    refine wpAny_bind (wpAny_field he hd h1 ?_)
    rw [if_neg (show ¬ ((Value.ref T == Value.none) = true) by simp)]
    have fin : wpAny (model X.prog X.w) X.A (setFlight (.ref a) X.env.frame) (fun _ s4 => wpAny (model X.prog X.w) X.A (throw (.ref a) : Sem Flow) (L2.SP X pins D) X.xe s4) X.xe s' := by
      rw [hf]
      exact HandSPX.setFlight_upZ fl3 fun h4 hh4 up4 => wpAny_throw (tk _ _ ⟨a, B, sI, pins, σ, H, cls, d, rfl, C.J, C.nb, C.up.trans up4, .inr (.inr (by rw [hs]; exact hh4)), C.na, C.os, C.ag, w⟩)
    first
      | exact wpAny_bind (wpAny_pure (wpAny_bind fin))
      | exact wpAny_bind fin
  | @bare x c ts b₀ su np p' hds2 l2 hc hsu r ih =>
    intro s' C w
    obtain ⟨b, hb1, hyes, hno⟩ := w
    obtain ⟨nL, nF⟩ := C.off hf
    obtain ⟨oe, vs, he, hz, hd⟩ := C.fl.there
    have S3 := C.inv.suite he hd C.na nL nF
    refine wpAny_handleBy_cons (codeAny_handlers_test ?_) (by intro q; cases q)
    have LT : PySem.W.Looks (model X.prog X.w) s'.heap (typeOf (.ref a)) cls := fun A Q E s k q => wpAny_typeOf_ref (k _ _ he) (by rw [hz.1]; exact q)
    have LM := PySem.W.exm_one (M := model X.prog X.w) C.inv.kIn LT hb1
    have nm : ∀ {Q E : Value → Shared → Prop}, Q c s' → wpAny (model X.prog X.w) (X.A.mark (some (.ref a))) (eval (.Name x np) X.env) Q E s' := fun {Q E} q => by
      obtain ⟨hg, hdbg, h | ⟨h, hv, hnn⟩⟩ := hc
      · exact ld_glob (X := X.suite a ((a, oe) :: (X.pn ++ pins))) S3 hg h q hdbg
      · exact ld_blt (X := X.suite a ((a, oe) :: (X.pn ++ pins))) S3 hg h hv q hnn hdbg
    refine nm (LM.here ?_)
    cases b with
    | true =>
      refine codeAny_handlers_suite ?_
      refine HandSPX.lands_againZ C.fl fun h4 fl4 up4 => ?_
      have C4 : Caught X pins a B sI σ H cls d { s' with heap := h4 } := ⟨C.J, C.nb, fl4, C.up.trans up4, C.na, C.os, C.ag⟩
      obtain ⟨oe4, vs4, he4, hz4, hd4⟩ := fl4.there
      refine suites (s' := s') (hsu a oe4 cls d (X.pn ++ pins) hz4 ⟨_, hd4⟩) (C4.inv.suite he4 hd4 C.na nL nF) (hyes rfl a C.na) fun f s6 hsp => ?_
      cases f with
      | next => obtain ⟨σ6, H6, S6, q6⟩ := hsp; exact ⟨_, _, S6.unsuite C.J.ok, q6⟩
      | brk => obtain ⟨σ6, H6, S6, q6⟩ := hsp; exact ⟨_, _, S6.unsuite C.J.ok, q6⟩
      | cont => obtain ⟨σ6, H6, S6, q6⟩ := hsp; exact ⟨_, _, S6.unsuite C.J.ok, q6⟩
      | ret u => obtain ⟨v6, σ6, H6, S6, r6, q6⟩ := hsp; exact ⟨_, _, _, S6.unsuite C.J.ok, r6, q6⟩
    | false =>
      show wpAny _ X.A (handleBy (.ref a) X.env hds2) _ _ _
      exact ih (s' := s') C (hno rfl)
  | @named x m i c ts b₀ su np p' hds2 l2 hc hN hi hm hsu r ih =>
    intro s' C w
    obtain ⟨b, hb1, hyes, hno⟩ := w
    obtain ⟨nL, nF⟩ := C.off hf
    obtain ⟨oe, vs, he, hz, hd⟩ := C.fl.there
    have S3 := C.inv.suite he hd C.na nL nF
    have hloc : Loc X.env.scope m := .inl hm
    refine wpAny_handleBy_cons (codeAny_handlers_test ?_) (by intro q; cases q)
    have LT : PySem.W.Looks (model X.prog X.w) s'.heap (typeOf (.ref a)) cls := fun A Q E s k q => wpAny_typeOf_ref (k _ _ he) (by rw [hz.1]; exact q)
    have LM := PySem.W.exm_one (M := model X.prog X.w) C.inv.kIn LT hb1
    have nm : ∀ {Q E : Value → Shared → Prop}, Q c s' → wpAny (model X.prog X.w) (X.A.mark (some (.ref a))) (eval (.Name x np) X.env) Q E s' := fun {Q E} q => by
      obtain ⟨hg, hdbg, h | ⟨h, hv, hnn⟩⟩ := hc
      · exact ld_glob (X := X.suite a ((a, oe) :: (X.pn ++ pins))) S3 hg h q hdbg
      · exact ld_blt (X := X.suite a ((a, oe) :: (X.pn ++ pins))) S3 hg h hv q hnn hdbg
    refine nm (LM.here ?_)
    cases b with
    | true =>
      refine codeAny_handlers_suite_as ?_
      refine HandSPX.lands_againZ C.fl fun h4 fl4 up4 => ?_
      have C4 : Caught X pins a B sI σ H cls d { s' with heap := h4 } := ⟨C.J, C.nb, fl4, C.up.trans up4, C.na, C.os, C.ag⟩
      obtain ⟨oe4, vs4, he4, hz4, hd4⟩ := fl4.there
      have S4 := C4.inv.suite he4 hd4 C.na nL nF
      refine store_ok (X := X.suite a ((a, oe4) :: (X.pn ++ pins))) (v := .ref a) S4 hN hi hloc rfl (fun s5 S5 => ?_) (.inr hm)
      refine suites (s' := s') (hsu a oe4 cls d (X.pn ++ pins) hz4 ⟨_, hd4⟩) S5 (hyes rfl a C.na) fun f s6 hsp => ?_
      have end_ : ∀ {σ6 : L2.St} {H6 : Hp} {Q : Shared → Prop}, Inv (X.suite a ((a, oe4) :: (X.pn ++ pins))) [] σ6 H6 s6 → (∀ s7, Inv X pins (σ6.set i none) H6 s7 → Q s7) →
          wpAny (model X.prog X.w) X.A (do bindName X.env m .none; unbindBehindTheSuite X.env m p') (fun _ s7 => Q s7) X.xe s6 := fun S6 hq => gone_ok (S6.unsuite C.J.ok) hN hi hm hq
      cases f with
      | next => obtain ⟨σ6, H6, S6, q6⟩ := hsp; exact end_ S6 fun s7 J7 => ⟨_, _, J7, q6⟩
      | brk => obtain ⟨σ6, H6, S6, q6⟩ := hsp; exact end_ S6 fun s7 J7 => ⟨_, _, J7, q6⟩
      | cont => obtain ⟨σ6, H6, S6, q6⟩ := hsp; exact end_ S6 fun s7 J7 => ⟨_, _, J7, q6⟩
      | ret u => obtain ⟨v6, σ6, H6, S6, r6, q6⟩ := hsp; exact end_ S6 fun s7 J7 => ⟨_, _, _, J7, r6, q6⟩
    | false =>
      show wpAny _ X.A (handleBy (.ref a) X.env hds2) _ _ _
      exact ih (s' := s') C (hno rfl)
theorem ps_try_mix (hs : X.stack = X.env :: X.outer) (hf : X.env.frame = some X.env.locals) (tk : Takes X Wout)
    (hb : ∀ (W : WX) (pn : List (Addr × Obj)) (xe : Value → Shared → Prop), Takes (X.tr pn xe) W → PassesOwn (model X.prog X.w) X.A X.env xe → PSs (X.tr pn xe) body (tb W)) (hh : HdX X (h₀ :: hds) l) :
    PS X (.Try body (h₀ :: hds) [] [] pos) (fun D σ H => tb (wMix X.K Wout D l) D σ H) := by
  refine ⟨fun pins s σ H D I h => wpAny_Try_except ?_⟩
  have ok := I.ok
  refine wpAny_mono ((hb (wMix X.K Wout D l) (X.pn ++ pins) (fun e s₁ => wpAny (model X.prog X.w) X.A (noteFrame e X.env) (fun _ s₂ => wpAny (model X.prog X.w) X.A (setFlight e none)
    (fun _ s₃ => wpAny (model X.prog X.w) X.A (handleBy e X.env (h₀ :: hds)) (L2.SP X pins D) X.xe s₃) X.xe s₂) X.xe s₁) (fun u s' xx => ?_) PassesOwn.looking).run [] s σ H D (I.toTry _) h) (fun f s1 hsp => ?_) (fun e s1 he => he)
  · obtain ⟨a, B, sI, pins', σ', H', cls, d, rfl, J', nb, up, sky, na, os, ag, w⟩ := xx
    have sky' : Sky B (X.env :: X.outer) a (Zc cls d) X.env.locals s'.heap := by rw [← hs]; exact sky
    show wpAny (model X.prog X.w) X.A (noteFrame (.ref a) X.env) _ _ _
    refine Sky.land Zc.steady (by rw [ok.frames, hs]) hf sky' fun h3 fl3 up3 => ?_
    exact handle_mix hs hf tk hh (s' := { s' with heap := h3 }) ⟨J'.ofTry ok, nb, fl3, up.trans up3, na, os, ag⟩ w
  · cases f with
    | next => obtain ⟨σ', H', J', q⟩ := hsp; exact wpAny_execs_nil ⟨σ', H', J'.ofTry ok, q⟩
    | brk => obtain ⟨σ', H', J', q⟩ := hsp; exact ⟨σ', H', J'.ofTry ok, q⟩
    | cont => obtain ⟨σ', H', J', q⟩ := hsp; exact ⟨σ', H', J'.ofTry ok, q⟩
    | ret u => obtain ⟨v, σ', H', J', r, q⟩ := hsp; exact ⟨v, σ', H', J'.ofTry ok, r, q⟩
end
end RW

set_option Elab.async false
set_option linter.all false
set_option maxRecDepth 100000
set_option maxHeartbeats 4000000
namespace RW
open PySem PySem.Spec PyProof.Rows L2
open Evl (Ex)
/-! ### a def that calls what it got, and tells how that ended -/
theorem takes_sized {X : Cx} {W : WX} (tk : Takes X W) : Takes X (fun cls d σ H => σ.length = X.N.length → W cls d σ H) := fun u s' ⟨a, B, sI, pins, σ, H, cls, d, e, I, nb, up, sky, na, os, ag, w⟩ =>
  tk u s' ⟨a, B, sI, pins, σ, H, cls, d, e, I, nb, up, sky, na, os, ag, w I.len⟩
/-- what it tells -/
inductive MR where
  | v (x : V)
  | t (xs : List V)
def Ret : MR → Hp → VK → Prop
  | .v x, H, Q => Q x H
  | .t xs, H, Q => ∀ b, H b = none → Q (.ref b) (upd H b (.tup xs))
def Dm (te0 : TE) (Q : VK) : Ends := { nx := fun σ' H' => te0 σ' H' Q, rt := Q }
def TMet (K : PySem.W.Frag) (l : List Clause) (te0 : TE) (r0 : MR) (m : Nat) : (XK → Hp → VK → Prop) → Hp → VK → Prop := fun tl H Q =>
  ∃ E : XK, (∀ cls d σ' H', E cls d H' → σ'.length = m → wMix K (fun _ _ _ _ => False) (Dm te0 Q) l cls d σ' H') ∧ tl E H fun _ H' => Ret r0 H' Q
theorem met_gives {X : Cx} {Ng : List Str} {x a q : Str} {sg : Scope} {g : Addr} {cdg : Value} {hds : List ExceptHandler} {h₀ : ExceptHandler} {l : List Clause} {e0 : Expr} {te0 : TE} {p1 p2 p3 p4 p5 : Pos}
    (hd : ∀ s H, HdX (cxOf C8.CX0 X.prog X.w X.K X.mg X.base Ng x sg g cdg X.A X.stack s H C8.E0).nox (h₀ :: hds) l) (he : ∀ s H, PE (cxOf C8.CX0 X.prog X.w X.K X.mg X.base Ng x sg g cdg X.A X.stack s H C8.E0).nox e0 te0)
    (h0 : ∀ f : Addr, (L2.start Ng [V.ref f])[0]? = some (some (V.ref f))) {r0 : MR} (hr0 : ∀ σ H Q, te0 σ H Q ↔ Ret r0 H Q) :
    LamX.GivesTo X Ng x sg g cdg [.Try [.Expr (.Call (.Name a p1) [] [] p2) p3] (h₀ :: hds) [] [] p4, .Return (some e0) p5] a q (TMet X.K l te0 r0 Ng.length) := by
  intro f c' s H Q tl act hc h
  obtain ⟨E, hE, ht⟩ := h
  refine ⟨_, pss_cons (ps_try_mix (X := (cxOf C8.CX0 X.prog X.w X.K X.mg X.base Ng x sg g cdg X.A X.stack s H C8.E0).nox)
    (tb := fun W D σ H => (∀ cls d σ' H', E cls d H' → σ'.length = Ng.length → W cls d σ' H') ∧ σ[0]? = some (some (.ref f)) ∧ H c' = some (LamX.CodeO c' q) ∧ tl E H fun _ H' => D.nx σ H') rfl rfl takes0 (fun W pn xe tk _ => ?_) (hd s H)) (pss_one (ps_ret (he s H))), ?_⟩
  · refine ⟨fun pins s' σ H' D I h' => ?_⟩
    obtain ⟨hW, h1, h2, h3⟩ := h'
    have hp := act (fun cls d σ' H' => σ'.length = Ng.length → W cls d σ' H') pn xe E p1 p2 (takes_sized tk) hW
    exact (pss_one (ps_expr (pos := p3) hp)).run pins s' σ H' D I ⟨h1, h2, h3⟩
  · refine ⟨fun cls d σ' H' e hl => hE cls d σ' H' e hl, h0 f, hc, ?_⟩
    show tl E H fun _ H' => te0 (L2.start Ng [V.ref f]) H' Q
    have e : (fun (_ : V) (H' : Hp) => te0 (L2.start Ng [V.ref f]) H' Q) = fun _ H' => Ret r0 H' Q := by
      funext _ H'
      exact propext (hr0 _ _ _)
    rw [e]; exact ht
def PayV (H : Hp) (d : Option Addr) : Option (Str × V) → Prop
  | none => True
  | some (f, v) => ∃ dd, d = some dd ∧ H dd = some (.xd [(f, v)])
def EMet (res : Addr → Option (Str × V) → MR → Prop) (Q : VK) : XK := fun cls d H' => ∃ C p r, cls = .ref C ∧ res C p r ∧ PayV H' d p ∧ Ret r H' Q
structure MetOk (TT : (XK → Hp → VK → Prop) → Hp → VK → Prop) (r0 : MR) (res : Addr → Option (Str × V) → MR → Prop) : Prop where
  run : ∀ tl H Q, (tl (EMet res Q) H fun _ H' => Ret r0 H' Q) → TT tl H Q
/-- r stands for d -/
def RepM (K : PySem.W.Frag) : MR → Dat → Prop
  | .v x, d => ∀ B, Rep K B x d
  | .t xs, d => ∃ ds, d = .tup ds ∧ ∀ B, Reps K B xs ds
section
variable {K : PySem.W.Frag} {env : Env1} {S S1 : List Dat} {x : Sl} {d : Dat} {T : List (Addr × Str)} {TT : (XK → Hp → VK → Prop) → Hp → VK → Prop} {t : XK → TE} {r0 r : MR} {res : Addr → Option (Str × V) → MR → Prop} {C : Addr} {p : Option (Str × Dat)}
  {B H B1 H1 : Hp} {as : List Addr}
theorem Ret.of {Q : VK} (hr : RepM K r d) (c : Ok K B1 H1 as S1) (e : Evo B H as B1 H1) (q : ∀ v B' H', Ok K B' H' as S1 → Evo B H as B' H' → RepS K B' as v (.d d) → Q v H') : Ret r H1 Q := by
  cases r with
  | v x => exact q x B1 H1 c e (hr B1)
  | t xs =>
    obtain ⟨ds, rfl, hds⟩ := hr
    exact fun b hb => q (.ref b) (upd B1 b (.tup xs)) _ (c.new hb) (e.trans (Evo.new c hb)) (.tup (Evl.st_of upd_same) (hds _))
def AllTabs (T : List (Addr × Str)) (S : List Dat) : Prop := TabsD T S ∧ ∀ (k : Nat) (P : Addr) (q : Str), S[k]? = some (.tab P q) → (P, q) ∈ T
theorem ev_met (M : MetOk TT r0 res) (hT : AllTabs T S) (h : ∀ E, Ev K (t E) env S x S1) (hr : RepM K r0 d) : Ev K (LamX.tLam T TT t) env S (.d d) S1 := fun B H as σ c g Q q =>
  ⟨c.tabs hT.1, fun H1 eN t1 => by
    obtain ⟨c1, e1⟩ := c.lam hT.1 hT.2 eN t1
    exact M.run _ _ _ (h _ _ H1 as σ c1 (g.mono e1.ex) _ fun v B2 H2 c2 e2 r2 => Ret.of hr c2 (e1.trans e2) q)⟩
theorem ev_metX (M : MetOk TT r0 res) (hT : AllTabs T S) (h : ∀ E, EvX K E (t E) env S C p S1) (hr : RepM K r d) (hres : ∀ B : Hp, match p with | none => res C none r | some (f, x) => ∀ v, Rep K B v x → res C (some (f, v)) r) :
    Ev K (LamX.tLam T TT t) env S (.d d) S1 := fun B H as σ c g Q q =>
  ⟨c.tabs hT.1, fun H1 eN t1 => by
    obtain ⟨c1, e1⟩ := c.lam hT.1 hT.2 eN t1
    refine M.run _ _ _ (h _ _ H1 as σ c1 (g.mono e1.ex) (fun dx B2 H2 c2 e2 pa => ?_) _)
    have R := Ret.of (Q := Q) hr c2 (e1.trans e2) q
    cases p with
    | none => exact ⟨C, none, r, rfl, hres B, trivial, R⟩
    | some fx =>
      obtain ⟨f, x⟩ := fx
      obtain ⟨dd, v, h1, h2, h3⟩ := pa
      exact ⟨C, some (f, v), r, rfl, hres B2 v h3, ⟨dd, h1, h2⟩, R⟩⟩
end
end RW

set_option Elab.async false
set_option linter.all false
set_option maxRecDepth 100000
set_option maxHeartbeats 4000000
/-! ### own exception classes with a field, straight over a built-in one (IndexError, OverflowError, ArithmeticError, LookupError) -/
namespace PySem.RWx
open PySem Builtin Builtin.ObjectAttr
/-! making an object of such a class: the __new__ that is found may be that of a built-in class further up (KeyError has LookupError's) -/
structure NewF (newId : String) (bm : List Value) : Prop where
  ex : ∃ (B initId : String) (bmB : List Value), ExcBaseFacts B newId initId bmB ∧ bm.contains (.type B) = true
  noA : bm.contains (.type "AttributeError") = false
  noN : bm.contains (.type "NameError") = false
section
variable {P : Program} {w : World} {M : Model} {A : Around} {E : Value → Shared → Prop} {R : Result → Shared → Prop} {h0 : Heap} {g : Array GenState} {dr : Drawn} {t : Nat} {os : OsState}
  {nm q : Str} {C N fI : Addr} {bs bm us : List Value} {hdct : Bool} {sn : List Str} {sub : List Value} {ab : Bool} {col : Option Bool} {dd : Option Addr} {k0 k1 k2 k3 k5 : Option Value} {newId : String}
theorem newf_ask (F : NewF newId bm) {Q : Unit → Shared → Prop} (hC : h0.get? C = some (excClassObj nm q C N bs bm hdct sn sub ab col dd k0 k1 k2 k3 k5 newId)) (z : Q () ⟨h0, g, dr, t, os⟩) :
    wpAny M A (checkBuiltinCall newId ⟨.ref C :: us, []⟩) Q E ⟨h0, g, dr, t, os⟩ := by
  obtain ⟨B, initId, bmB, F, hB⟩ := F.ex
  have e1 : (Value.ref C :: bm).contains (.type B) = true := by rw [List.contains_cons, hB, Bool.or_true]
  have e2 := F.noStar
  simp only [checkBuiltinCall, F.newKind, F.newSplit, F.newRow]
  repeat (first | refine wpAny_loadPart_at hC ?_ | (refine wpAny_isSubtype_exc hC ?_; rw [e1]) | refine wpAny_staticBase_exc hC ?_ | refine wpAny_madeBy_exc hC ?_ | simp only [bne_self_eq_false, Bool.false_eq_true, if_false] | wp_step)
  exact z
theorem newf_runs (F : NewF newId bm) (hl : us.length ≤ sizeLine) (hC : h0.get? C = some (excClassObj nm q C N bs bm hdct sn sub ab col dd k0 k1 k2 k3 k5 newId))
    (z : R (.ok (.ret (.ref (h0.objs.size + 1)))) ⟨(h0.push (PySem.W.kdv_tup us)).push (PySem.HandSPX.excO C h0.objs.size), g, dr, t, os⟩) : codeAny (model P w) A (.builtin newId ⟨.ref C :: us, []⟩) R ⟨h0, g, dr, t, os⟩ := by
  have e2 : (Value.ref C :: bm).contains (.type "AttributeError") = false := by rw [List.contains_cons, F.noA]; rfl
  have e3 : (Value.ref C :: bm).contains (.type "NameError") = false := by rw [List.contains_cons, F.noN]; rfl
  obtain ⟨B, initId, bmB, F, hB⟩ := F.ex
  have e1 : (Value.ref C :: bm).contains (.type B) = true := by rw [List.contains_cons, hB, Bool.or_true]
  have e4 := F.ends
  refine codeAny_builtinAt F.entry ?_
  unfold Builtin.«BaseException.__new__»
  refine wpAt_bind ?_
  show wpAt _ _ _ (stack >>= _) _ _ _
  refine wpAt_bind (wpAt_stack fun _ _ => wpAt_of_wpAny ?_)
  wp_walk
  refine wpAt_of_wpAny ?_
  rw [F.owner]
  repeat (first | with_reducible refine wpAny_madeHere_exc F.canon hC ?_ | with_reducible refine wpAny_loadPart_at hC ?_ | (with_reducible refine wpAny_isSubtype_exc hC ?_; first | rw [e1] | rw [e2] | rw [e3]) | wp_step)
  show R _ _
  rw [Heap.size_push]
  exact z
theorem newf_type (F : NewF newId bm) (hl : us.length ≤ sizeLine) {Q : Fin → Shared → Prop} (hC : h0.get? C = some (excClassObj nm q C N bs bm hdct sn sub ab col dd k0 k1 k2 k3 k5 newId))
    (hi : PySem.W.Looks (model P w) h0 (typeLookup (.ref C) "__init__") (some (.ref fI))) (hb : ∀ self, PySem.W.Looks (model P w) h0 (bindSpecial (.ref fI) self) (.ref fI, [self]))
    (z : codeAny (model P w) A (.call (.ref fI) ⟨.ref (h0.objs.size + 1) :: us, []⟩)
      (fun r s' => match r with | .ok (.ret v) => v = .none ∧ Q (.done (.ret (.ref (h0.objs.size + 1)))) s' | .ok _ => False | .error e => E e s')
      ⟨(h0.push (PySem.W.kdv_tup us)).push (PySem.HandSPX.excO C h0.objs.size), g, dr, t, os⟩) : wpAny (model P w) A (Builtin.«type.__call__» ⟨.ref C :: us, []⟩) Q E ⟨h0, g, dr, t, os⟩ := by
  have hq : newId.startsWith "lifetime." = false := by
    obtain ⟨_, _, _, F', _⟩ := F.ex
    exact F'.quiet
  repeat (first | with_reducible refine wpAny_loadPart_at hC ?_ | with_reducible refine wpAny_madeBy_exc hC ?_ | wp_step)
  refine codeAny_call_builtin_code (Code.quiet_builtin _ hq) (newf_ask F hC (newf_runs F hl hC ?_))
  show wpAny _ _ _ _ _ _
  have up : ∀ b o, h0.get? b = some o → ((h0.push (PySem.W.kdv_tup us)).push (PySem.HandSPX.excO C h0.objs.size)).get? b = some o := fun b o e => Heap.get?_push_of_some _ (Heap.get?_push_of_some _ e)
  have hC2 := up _ _ hC
  have hE : ((h0.push (PySem.W.kdv_tup us)).push (PySem.HandSPX.excO C h0.objs.size)).get? (h0.objs.size + 1) = some (PySem.HandSPX.excO C h0.objs.size) := by heap_get
  have e1 : (Value.ref C :: bm).contains (.ref C) = true := by simp
  have hi2 := hi.keeps up
  have hb2 := (hb (.ref (h0.objs.size + 1))).keeps up
  unfold isInstance
  repeat (first | with_reducible refine wpAny_loadPart_at hE ?_ | (with_reducible refine wpAny_isSubtype_exc hC2 ?_; rw [e1]) | wp_step)
  show wpAny _ _ (typeLookup (.ref C) _) _ _ _
  refine hi2.at (wpAny_holding (wpAny_bind (hb2.at (wpAny_bind (wpAny_call (codeAny_mono z fun r s' y => ?_))))))
  rcases r with e | (v | _ | _ | _) <;> first | exact y | exact y.elim | skip
  obtain ⟨rfl, y⟩ := y
  first
    | exact wpAny_pure (wpAny_pure y)
    | (wp_walk; exact y)
theorem newf_call (F : NewF newId bm) (hl : us.length ≤ sizeLine) (hC : h0.get? C = some (excClassObj nm q C N bs bm hdct sn sub ab col dd k0 k1 k2 k3 k5 newId))
    (hi : PySem.W.Looks (model P w) h0 (typeLookup (.ref C) "__init__") (some (.ref fI))) (hb : ∀ self, PySem.W.Looks (model P w) h0 (bindSpecial (.ref fI) self) (.ref fI, [self]))
    (z : codeAny (model P w) (A.under (.builtin "type.__call__" ⟨.ref C :: us, []⟩)) (.call (.ref fI) ⟨.ref (h0.objs.size + 1) :: us, []⟩) (PySem.W.InitBack (h0.objs.size + 1) R)
      ⟨(h0.push (PySem.W.kdv_tup us)).push (PySem.HandSPX.excO C h0.objs.size), g, dr, t, os⟩) : codeAny (model P w) A (.call (.ref C) ⟨us, []⟩) R ⟨h0, g, dr, t, os⟩ := by
  have f1 := tc_lookup
  have f2 := tc_bind (.ref C)
  have hTy : (⟨h0, g, dr, t, os⟩ : Shared).TypeIs (.ref C) "type" := ⟨_, hC, rfl⟩
  refine codeAny_of_tree ?_
  show wpAny _ _ (callAny (.ref C) _) _ _ _
  repeat (any_goals (first | assumption | with_reducible refine wpAny_loadPart_at hC ?_ | wp_step))
  refine ⟨rfl, codeAny_call_builtin_at (Code.quiet_builtin _ (by decide +kernel)) entry_typeCall (wpAny_check_type_call_sub hC (newf_type F hl hC hi hb (codeAny_mono z fun r s' y => ?_)))⟩
  rcases r with e | (v | _ | _ | _) <;> exact y
end
theorem newf_of {B newId initId : String} {bm : List Value} (F : ExcBaseFacts B newId initId bm) : NewF newId bm := ⟨⟨B, initId, bm, F, F.hasB⟩, F.noAttr, F.noName⟩
theorem newf_key : NewF "LookupError.__new__" [.type "KeyError", .type "LookupError", .type "Exception", .type "BaseException", .type "object"] := ⟨⟨_, _, _, PySem.F.excBase_LookupError, by decide +kernel⟩, by decide +kernel, by decide +kernel⟩
theorem store_KeyError : StoreFacts "KeyError" [.type "KeyError", .type "LookupError", .type "Exception", .type "BaseException", .type "object"] "object.__setattr__" "object" where
  mro := by kernel_rfl
  slot := .of (owner := "object") (n := "__setattr__") (by rw [typeLookup_type, builtinLookup_eq_fast]; kernel_rfl) (by decide +kernel) (by decide +kernel) (by decide +kernel)
    (by first | exact .inl (by decide +kernel) | exact .inr (by decide +kernel)) (by rw [isSubtype_type]; kernel_rfl)
  entry := PySem.F.entry_object_sa
  kind := by decide +kernel
  split := by decide +kernel
  hasOwner := by decide +kernel
  args := fun a b c => by unfold argsOk; kernel_rfl
  passes := fun self => by kernel_rfl
end PySem.RWx
namespace RW
open PySem PySem.Spec PyProof.Rows L2
open Evl (Ex)
section
open Builtin Builtin.ObjectAttr
variable {P : Program} {w : World} {A : Around} {R : Result → Shared → Prop} {h0 : Heap} {g : Array GenState} {dr : Drawn} {t : Nat} {os : OsState}
/-- the first store into such an object: its dict is made -/
theorem store_first {K : PySem.W.Frag} {f : Str} {tk : Tok} {v : Value} {x C : Addr} {fv : Array Value} {cd : ClassData} {B : String} {bm : List Value} (SF : StoreFacts B bm "object.__setattr__" "object")
    (X : K.In h0) (hx : h0.get? x = some { cls := .ref C, data := .fields fv }) (ho : PySem.W.excOver K C bm = true) (hcd : PySem.W.clsIn K C = some cd) (hh : cd.hasDict = true) (ha : PySem.W.findIn K (.ref C) f = some none)
    (hq : ∀ h1 tk1 dx, h1.get? x = some { cls := .ref C, dict := some dx, data := .fields fv } → h1.Ns1 dx (fun y => if y = f then some v else none) → dx ≠ x → h0.objs.size ≤ dx → (∀ b o, b ≠ x → h0.get? b = some o → h1.get? b = some o) → R (.ok (.ret .none)) ⟨h1, g, dr, tk1, os⟩) :
    codeAny (model P w) A (.call (.builtin "object.__setattr__") ⟨[.ref x, .str f tk, v], []⟩) R ⟨h0, g, dr, t, os⟩ := by
  have htk : PySem.W.takerIn K C f = some none := by unfold PySem.W.takerIn; rw [ha]; rfl
  have lc : PySem.W.Looks (model P w) h0 (classData C) cd := PySem.W.looks_clsIn X hcd
  have hs : x ≠ h0.objs.size := Nat.ne_of_lt (Heap.lt_size hx)
  refine PySem.W.osa_openX (od := none) SF X ⟨hx, rfl, rfl, trivial⟩ ho htk fun b => ?_
  show wpAny _ _ (storeInOwnDict (.ref x) (.ref C) (.str f tk) f v b) _ _ _
  obtain ⟨c1, c2, c3, c4, c5, hd, c6, c7, c8, c9, c10⟩ := cd
  obtain rfl : hd = true := hh
  unfold storeInOwnDict ownDictForStores
  repeat (first
    | with_reducible refine PySem.HandSPX.store_in_new ?_ ?_
    | with_reducible refine lc.at ?_
    | with_reducible refine wpAny_loadPart_at hx ?_
    | wp_step)
  · exact ⟨_, #[], _, (Heap.get?_update_ne _ _ _ _ hs.symm).trans (Heap.get?_push_at rfl rfl), rfl, fun z hz => absurd hz (by simp), fun _ => rfl⟩
  · intro h1 tk1 hn sb
    have old : ∀ {b o}, h0.get? b = some o → b ≠ h0.objs.size := fun e => Nat.ne_of_lt (Heap.lt_size e)
    refine hq h1 tk1 h0.objs.size ?_ hn hs.symm (Nat.le_refl _) fun b o hb e => ?_
    · rw [sb.2 x hs]
      exact Heap.get?_update_self _ (Heap.get?_push_of_some _ hx) rfl
    · rw [sb.2 b (old e), Heap.get?_update_ne _ _ _ _ hb]
      exact Heap.get?_push_of_some _ e
end
structure OexG (K : PySem.W.Frag) (C : Addr) : Prop where
  cls : ∃ (B newId : String) (bm : List Value), (PySem.RWx.NewF newId bm ∧ StoreFacts B bm "object.__setattr__" "object" ∧ PySem.W.excTail bm bm = true) ∧
    ∃ nm q N bs sn sub ab col dd k0 k1 k2 k3 k5, K.lookup C = some (excClassObj nm q C N bs bm true sn sub ab col dd k0 k1 k2 k3 k5 newId)
  sa : PySem.W.findIn K (.ref C) "__setattr__" = some (some (.builtin "object.__setattr__"))
  exC : PySem.W.subIn K (.ref C) (.type "BaseException") = some true
  tyC : PySem.W.typeIn K (.ref C) = some (.type "type")
  kC : PySem.W.keepIn K (.ref C) = true
section
variable {X : Cx} {pins : List (Addr × Obj)} {σ : L2.St} {H : Hp} {s : Shared} {a C : Addr} {f : Str} {y : V} {u : Value} {Q : Unit → Shared → Prop} {E : Value → Shared → Prop} {A : Around}
/-- self.f = y on an exception that is being made -/
theorem xset_first (T : OexG X.K C) (I : Inv X pins σ H s) (e : H a = some (exo a C none)) (hno : PySem.W.findIn X.K (.ref C) f = some none) (ry : RelV y u)
    (q : ∀ dx s', dx ≠ a → H dx = none → Inv X pins σ (upd (upd H dx (exd dx [(f, y)])) a (exo a C (some dx))) s' → Q () s') : wpAny (model X.prog X.w) A (setAttr (.ref a) f u) Q E s := by
  obtain ⟨B, newId, bm, ⟨_, SF, tl⟩, nm, qn, N, bs, sn, sub, ab, col, dd, k0, k1, k2, k3, k5, hC⟩ := T.cls
  have hcl : PySem.W.clsIn X.K C = some { name := nm, bases := bs, mro := .ref C :: bm, ns := N, qualname := qn, hasDict := true, slotNames := sn, subclasses := sub, abstract := ab, collection := col, hasDel := false } := by
    unfold PySem.W.clsIn
    rw [hC] <;> rfl
  have hov : PySem.W.excOver X.K C bm = true := by
    unfold PySem.W.excOver
    rw [hcl]
    simp [tl]
  obtain ⟨t1, ho⟩ := exo_at I.hok e
  obtain ⟨h0, g, dr, t, os⟩ := s
  refine PySem.W.set_plain I.kIn (od := none) ⟨ho, rfl, rfl, trivial⟩ T.sa (store_first SF I.kIn ho hov hcl rfl hno fun h1 tk1 dx hx hn dne dnew k => ?_)
  have hd : H dx = none := I.hok.fresh dnew
  have other : ∀ {b : Addr}, H b = none → b ≠ a := fun {b} n z => by rw [z, e] at n; cases n
  have young : ∀ {b : Addr} {o : Obj}, h0.get? b = some o → b ≠ dx := fun {b o} z => Nat.ne_of_lt (Nat.lt_of_lt_of_le (Heap.lt_size z) dnew)
  have same : ∀ {b : Addr} {o : HO}, H b = some o → o ≠ exo a C none → upd (upd H dx (exd dx [(f, y)])) a (exo a C (some dx)) b = some o := fun {b o} z n => by
    have ha : b ≠ a := fun w => by rw [w, e] at z; exact n (Option.some.inj z).symm
    rw [upd_ne ha, upd_ne (ne_of_none z hd)]; exact z
  refine q dx _ dne hd (I.un (t' := tk1) ⟨fun b o z n _ _ => k b o (other n) z, fun b o z n _ _ => ⟨o.slots, k b o (other n) z⟩, fun b o z n _ => ?_, fun b o z _ => ?_, fun b xs z => same z fun w => exo_tup w.symm, fun b o v z => same z fun w => exo_frz w.symm, fun b ps z => ⟨#[], ?_⟩⟩ fun b o z => ?_)
  · rw [upd_ne (other n), upd_ne (young z)]; exact n
  · by_cases hb : b = a
    · rw [hb]; exact ⟨_, hx⟩
    · exact ⟨o, k b o hb z⟩
  · rw [Array.append_empty]
    exact same z fun w => exo_tbl w.symm
  · by_cases hb : b = a
    · rw [hb, upd_same] at z
      cases z
      rw [hb]
      exact exo_ok hx
    · rw [upd_ne hb] at z
      by_cases hb2 : b = dx
      · rw [hb2, upd_same] at z
        cases z
        rw [hb2]
        exact exd_ok hn (relO_put (fs := []) ry fun _ => trivial)
      · rw [upd_ne hb2] at z
        refine (I.hok b o z).stay (fun c v hc zz => k c v ?_ zz) (fun c hc => same hc fun w => exo_own w.symm) fun c xs hc => same hc fun w => exo_tup w.symm
        rcases hc with rfl | hc
        · exact hb
        · exact at_ne e hc exo_own
end
/-- self.f = e, in such an __init__ -/
def tXset (K : PySem.W.Frag) (f : Str) (to te : TE) : TS := fun D σ H => te σ H fun y H1 => to σ H1 fun x H2 => ∃ a C : Addr, x = .ref a ∧ OexG K C ∧ PySem.W.findIn K (.ref C) f = some none ∧ H2 a = some (exo a C none) ∧
  ∀ dx, H2 dx = none → dx ≠ a → D.nx σ (upd (upd H2 dx (exd dx [(f, y)])) a (exo a C (some dx)))
theorem ps_xset {X : Cx} {o e : Expr} {to te : TE} {f : Str} {p' pos : Pos} (ho : PE X o to) (he : PE X e te) (hs : swapsWith e (some (.Attribute o f p')) pos.line X.env = pure false := by rfl) : PS X (.Assign [.Attribute o f p'] e pos) (tXset X.K f to te) := ⟨fun pins s σ H D I h => by
  refine plainObj_wpAny_Assign_Attribute (thn (he.run pins s σ H _ I h) fun v s1 q1 => ?_) hs
  obtain ⟨y, H1, I1, r1, q1⟩ := q1
  refine thn (ho.run pins s1 σ H1 _ I1 q1) fun u s2 q2 => ?_
  obtain ⟨x, H2, I2, r2, a, C, rfl, T, hno, ea, q⟩ := q2
  obtain rfl : u = Value.ref a := r2
  exact xset_first T I2 ea hno r1 fun dx s' ne n J => ⟨σ, _, J, q dx n ne⟩⟩
/-- C(e, ..): made, its __init__ run -/
theorem pmk_xi {X : Cx} {e : Expr} {es : List Expr} {ta : TA} {p pos : Pos} {cx : CXT} {x : Str} {C fI : Addr} {n : Nat} {fd : FuncData} {ps : List Str} {sp : Sp} (T : OexG X.K C) (iC : PySem.W.findIn X.K (.ref C) "__init__" = some (some (.ref fI)))
    (tI : PySem.W.typeIn X.K (.ref fI) = some (.type "function")) (F1 : FnOk X.prog X.w X.K X.mg X.base cx n fI fd ps sp) (hr : Room (n + 1) X.A) (hb : L2.Binds X.K fd ps []) (hx : Passes cx X (fun _ _ _ => False)) (hg : Gl X x) (hm : X.mg x = some (.ref C)) (ha : PA X (e :: es) ta)
    (hdb : (x == ("__debug__" : Str)) = false := by decide) (he : starEach (e :: es) X.env = (false, eval e X.env) :: starEach es X.env := by rfl) (hpl : (backTo pos (starEach es X.env)).any (·.1) = false := by rfl) :
    PMk X (.Call (.Name x p) (e :: es) [] pos) (tMkO C sp [] ta) := by
  intro pins s σ H Q I h
  obtain ⟨B, newId, bm, ⟨FB, _, _⟩, nm, qn, N, bs, sn, sub, ab, col, dd, k0, k1, k2, k3, k5, hC⟩ := T.cls
  refine wpAny_Call_Name_kw (ld_glob I hg hm (PySem.W.callWith_K (h₀ := X.base) I.ok.mod.kin T.kC (thn (ha.run pos pins s σ H _ I h) fun us s1 q1 => ?_) he hpl) hdb)
  obtain ⟨vs, H1, I1, r1, hz, q1⟩ := q1
  refine ⟨I1.kIn, ?_⟩
  show wpAny _ _ (call (.ref C) us) _ _ _
  obtain ⟨h0, g, dr, tk, os⟩ := s1
  have big : h0.objs.size ≤ h0.objs.size + 1 := Nat.le_succ _
  have hq := q1 _ (I1.hok.fresh big)
  have got : ((h0.push (PySem.W.kdv_tup us)).push (PySem.HandSPX.excO C h0.objs.size)).get? (h0.objs.size + 1) = some (PySem.HandSPX.excO C h0.objs.size) := by heap_get
  have stay : ∀ b o, h0.get? b = some o → ((h0.push (PySem.W.kdv_tup us)).push (PySem.HandSPX.excO C h0.objs.size)).get? b = some o := fun b o z => Heap.get?_push_of_some _ (Heap.get?_push_of_some _ z)
  have I2 := I1.laid (t' := tk) (o := exo (h0.objs.size + 1) C none) stay big (exo_ok got)
  have rv : Vals (V.ref (h0.objs.size + 1) :: (vs ++ [])) (Value.ref (h0.objs.size + 1) :: (us ++ [])) := .cons rfl (r1.append .nil)
  have hl : (Value.ref (h0.objs.size + 1) :: us ++ []).length = ps.length := rv.length.symm.trans (F1.len _ _ _ _ hq)
  have hus : us.length ≤ sizeLine := by have := r1.length; rw [sizeLine_eq]; omega
  refine wpAny_call (PySem.RWx.newf_call FB hus (I1.kIn _ _ hC) (PySem.W.looks_findIn I1.kIn iC) (fun self => PySem.W.bind_fn I1.kIn self tI) (codeAny_mono
    (F1.run _ X.stack _ _ ⟨Value.ref (h0.objs.size + 1) :: us, []⟩ _ _ _ (fun _ _ _ => False) (hr.make C us []) (I2.env0.make C us []) (hb _ (Value.ref (h0.objs.size + 1) :: us) I2.kIn hl) rv hq) fun r s' z => ?_))
  rcases r with er | fl
  · exact hx pins σ _ _ er s' I2 z
  · cases fl with
    | ret u =>
      obtain ⟨v, H2, os2, bare, un, hok, rv2, ev, d, fs, ea, ed, hd1, q2⟩ := z
      subst ev
      obtain ⟨h2, g2, d2, t2, os3⟩ := s'
      exact ⟨rv2, mk_end (raises_own T.exC T.tyC) I1 big stay un hok os2 bare ea ed hd1 q2⟩
    | next => exact z.elim
    | brk => exact z.elim
    | cont => exact z.elim
/-! ### the promise of such an __init__, and what a raise of it gives -/
def spXg (K : PySem.W.Frag) (C : Addr) (f : Str) : Sp := fun vs H Q _ => ∃ (a : Addr) (v : V), vs = [.ref a, v] ∧ OexG K C ∧ PySem.W.findIn K (.ref C) f = some none ∧ H a = some (exo a C none) ∧ ∀ dx, H dx = none → dx ≠ a → Q .non (upd (upd H dx (exd dx [(f, v)])) a (exo a C (some dx)))
theorem spxg_len {K : PySem.W.Frag} {C : Addr} {f : Str} : ∀ vs H Q E, spXg K C f vs H Q E → vs.length = 2 := fun vs H Q E ⟨a, v, e, _⟩ => by rw [e]; rfl
theorem spxg_body {K : PySem.W.Frag} {C : Addr} {f : Str} {N : List Str} {vs : List V} {H : Hp} {Q : VK} {E : XK} (h : spXg K C f vs H Q E) (hN : N.length = 2) : tXset K f (tVar 0) (tVar 1) { nx := fun _ H' => Q .non H', rt := Q } (start N vs) H := by
  obtain ⟨a, v, rfl, h1, h2, h3, q⟩ := h
  exact ⟨v, rfl, _, rfl, a, C, rfl, h1, h2, h3, q⟩
section
variable {K : PySem.W.Frag} {n : Nat} {tA : TA} {env : Env1} {S S1 : List Dat} {d : Dat} {P : Post} {u : TS} {E : XK} {C : Addr} {f : Str}
theorem mkg_want {B H : Hp} {as : List Addr} {σ : L2.St} (h : EvA K tA env S [.d d] S1) (oc : OexG K C) (hf : PySem.W.findIn K (.ref C) f = some none) (c : Ok K B H as S) (g : EnvR K B as σ env) (w : XWant K E B H as C (some (f, d)) S1) :
    tMkO C (spXg K C f) [] tA σ H fun cls d H' => E cls d H' := h B H as σ c g _ fun vs B1 H1 c1 e1 r1 => by
  cases r1 with
  | cons r1 rr =>
    rename_i v vs'
    cases rr
    refine ⟨by show 1 ≤ 1000; decide, fun a ha => ⟨a, v, rfl, oc, hf, upd_same, fun dx hdx hne => ⟨rfl, dx, [(f, v)], upd_same, by rw [upd_ne hne, upd_same], by rw [upd_ne hne] at hdx; exact hdx, ?_⟩⟩⟩
    rw [upd_ne hne] at hdx
    rw [xd_end ha hne]
    have hB := c1.Bnone hdx
    exact w (some dx) B1 _ (c1.other hB (c1.fresh hdx)) (e1.trans (Evo.refl.other (.of hdx))) ⟨dx, v, rfl, upd_same, r1⟩
/-- raise X(e) -/
theorem sp_raiseG (h : EvA K tA env S [.d d] S1) (oc : OexG K C) (hf : PySem.W.findIn K (.ref C) f = some none) (hP : P.ok = XOk K E (.exc C (some (f, d))) (S1.take n)) : SP K n (fun _ σ H => tMkO C (spXg K C f) [] tA σ H fun cls d H' => E cls d H') env S P :=
  fun B0 H0 as0 Bk B H as σ hl f0 c g D m => mkg_want h oc hf c g (m.want hP f0 hl rfl)
theorem sp_raiseGq (h : EvA K tA env S [.d d] S1) (oc : OexG K C) (hf : PySem.W.findIn K (.ref C) f = some none) (hP : P.ok = XOk K E (.exc C (some (f, d))) (S1.take n)) : SP K n (tSeq (fun _ σ H => tMkO C (spXg K C f) [] tA σ H fun cls d H' => E cls d H') u) env S P :=
  fun B0 H0 as0 Bk B H as σ hl f0 c g D m => mkg_want h oc hf c g (m.want hP f0 hl rfl)
end
/-! ### what is told of an exception may hang on the heap (a kept tuple) -/
def EMetH (res : Hp → Addr → Option (Str × V) → MR → Prop) (Q : VK) : XK := fun cls d H' => ∃ C p r, cls = .ref C ∧ res H' C p r ∧ PayV H' d p ∧ Ret r H' Q
structure MetOkH (TT : (XK → Hp → VK → Prop) → Hp → VK → Prop) (r0 : MR) (res : Hp → Addr → Option (Str × V) → MR → Prop) : Prop where
  run : ∀ tl H Q, (tl (EMetH res Q) H fun _ H' => Ret r0 H' Q) → TT tl H Q
section
variable {K : PySem.W.Frag} {env : Env1} {S S1 : List Dat} {x : Sl} {d : Dat} {T : List (Addr × Str)} {TT : (XK → Hp → VK → Prop) → Hp → VK → Prop} {t : XK → TE} {r0 r : MR} {res : Hp → Addr → Option (Str × V) → MR → Prop} {C : Addr} {p : Option (Str × Dat)}
theorem ev_metH (M : MetOkH TT r0 res) (hT : AllTabs T S) (h : ∀ E, Ev K (t E) env S x S1) (hr : RepM K r0 d) : Ev K (LamX.tLam T TT t) env S (.d d) S1 := fun B H as σ c g Q q =>
  ⟨c.tabs hT.1, fun H1 eN t1 => by
    obtain ⟨c1, e1⟩ := c.lam hT.1 hT.2 eN t1
    exact M.run _ _ _ (h _ _ H1 as σ c1 (g.mono e1.ex) _ fun v B2 H2 c2 e2 r2 => Ret.of hr c2 (e1.trans e2) q)⟩
theorem ev_metHX (M : MetOkH TT r0 res) (hT : AllTabs T S) (h : ∀ E, EvX K E (t E) env S C p S1) (hr : RepM K r d) (hres : ∀ H : Hp, match p with | none => res H C none r | some (f, x) => ∀ v, Rep K H v x → res H C (some (f, v)) r) :
    Ev K (LamX.tLam T TT t) env S (.d d) S1 := fun B H as σ c g Q q =>
  ⟨c.tabs hT.1, fun H1 eN t1 => by
    obtain ⟨c1, e1⟩ := c.lam hT.1 hT.2 eN t1
    refine M.run _ _ _ (h _ _ H1 as σ c1 (g.mono e1.ex) (fun dx B2 H2 c2 e2 pa => ?_) _)
    have R := Ret.of (Q := Q) hr c2 (e1.trans e2) q
    cases p with
    | none => exact ⟨C, none, r, rfl, hres H2, trivial, R⟩
    | some fx =>
      obtain ⟨f, x⟩ := fx
      obtain ⟨dd, v, h1, h2, h3⟩ := pa
      exact ⟨C, some (f, v), r, rfl, hres H2 v (h3.mono c2.ex), ⟨dd, h1, h2⟩, R⟩⟩
end
end RW

set_option Elab.async false
set_option linter.all false
set_option maxRecDepth 100000
set_option maxHeartbeats 4000000
namespace RW
open PySem PySem.Spec PyProof.Rows L2
open Evl (Ex)
/-! ### any value: what the checks of a program ask -/
/-- a value of a menu: known at any depth -/
inductive KD : Dat → Prop
  | non : KD .non
  | bl (b : Bool) : KD (.bl b)
  | int (i : Int) : KD (.int i)
  | str (s : Str) : KD (.str s)
  | dd : KD .dd
  | tup {xs : List Dat} (h : ∀ d ∈ xs, KD d) (l : xs.length ≤ 1000) : KD (.tup xs)
  | lst {xs : List Dat} (h : ∀ d ∈ xs, KD d) (l : xs.length ≤ 1000) : KD (.lst xs)
def isIntD : Dat → Bool
  | .int _ => true
  | .bl _ => true
  | _ => false
def isTupD : Dat → Bool
  | .tup _ => true
  | _ => false
def isStrD : Dat → Bool
  | .str _ => true
  | _ => false
def shD : Dat → Bool
  | .int i => decide (-(10 ^ 60) < i) && decide (i < 10 ^ 60)
  | _ => false
def lenD : Dat → Nat
  | .tup xs => xs.length
  | _ => 0
def innD : Dat → List Dat
  | .tup xs => xs
  | _ => []
section
variable {K : PySem.W.Frag} {env : Env1} {S : List Dat} {d : Dat} {i : Nat} {b c : Bool} {neg : Bool}
theorem KD.ty (h : KD d) : ∃ T, tyD d = some T := by cases h <;> exact ⟨_, rfl⟩
theorem ck_int (h : KD d) : CallD K (rIsi K) [.d d, .d (.ty "int")] S (.bl (isIntD d)) S := by
  cases h <;> first | exact cd_isi (b := true) rfl (by decide +kernel) | exact cd_isi (b := false) rfl (by decide +kernel)
theorem ck_tup (h : KD d) : CallD K (rIsi K) [.d d, .d (.ty "tuple")] S (.bl (isTupD d)) S := by
  cases h <;> first | exact cd_isi (b := true) rfl (by decide +kernel) | exact cd_isi (b := false) rfl (by decide +kernel)
theorem ck_str (h : KD d) : CallD K (rIsi K) [.d d, .d (.ty "str")] S (.bl (isStrD d)) S := by
  cases h <;> first | exact cd_isi (b := true) rfl (by decide +kernel) | exact cd_isi (b := false) rfl (by decide +kernel)
/-- what an own class asks of the built-in ones -/
structure KtC (K : PySem.W.Frag) (C : Addr) : Prop where
  non : PySem.W.kitOne K (.type "NoneType") (.ref C) = some false
  bl : PySem.W.kitOne K (.type "bool") (.ref C) = some false
  int : PySem.W.kitOne K (.type "int") (.ref C) = some false
  str : PySem.W.kitOne K (.type "str") (.ref C) = some false
  tup : PySem.W.kitOne K (.type "tuple") (.ref C) = some false
  lst : PySem.W.kitOne K (.type "list") (.ref C) = some false
  dd : PySem.W.kitOne K (.type "dict") (.ref C) = some false
theorem ck_own {C : Addr} (k : KtC K C) (h : KD d) : CallD K (rIsi K) [.d d, .d (.adr C)] S (.bl false) S := by
  cases h
  · exact cd_isiN rfl k.non
  · exact cd_isiN rfl k.bl
  · exact cd_isiN rfl k.int
  · exact cd_isiN rfl k.str
  · exact cd_isiN rfl k.dd
  · exact cd_isiN rfl k.tup
  · exact cd_isiN rfl k.lst
theorem o_isX_bl : Op2 K (rIsX neg) (.d (.bl c)) (.d (.bl b)) S (.bl (neg != decide (c = b))) := fun B H as v w k h1 h2 Q q => by
  cases h1; cases h2
  refine ⟨b, rfl, ?_⟩
  have e : decide (V.bl c = V.bl b) = decide (c = b) := by cases c <;> cases b <;> rfl
  rw [e]
  exact q _ B H k Evo.refl (.bl _)
theorem o_isX_blE {a : Bool} (h : (neg != decide (c = b)) = a) : Op2 K (rIsX neg) (.d (.bl c)) (.d (.bl b)) S (.bl a) := h ▸ o_isX_bl
theorem bad_int (v : Int) : (decide (v ≤ -(10 ^ 60)) || decide (10 ^ 60 ≤ v)) = !shD (.int v) := by
  have e1 : decide (v ≤ -(10 ^ 60)) = !decide (-(10 ^ 60) < v) := by
    by_cases h : -(10 ^ 60) < v
    · rw [decide_eq_true h, decide_eq_false (by omega)]; rfl
    · rw [decide_eq_false h, decide_eq_true (by omega)]; rfl
  have e2 : decide (10 ^ 60 ≤ v) = !decide (v < 10 ^ 60) := by
    by_cases h : v < 10 ^ 60
    · rw [decide_eq_true h, decide_eq_false (by omega)]; rfl
    · rw [decide_eq_false h, decide_eq_true (by omega)]; rfl
  rw [e1, e2]
  show (!_ || !_) = !(decide (-(10 ^ 60) < v) && decide (v < 10 ^ 60))
  rw [Bool.not_and]
/-- not isinstance(x, int) or x is True or x is False or x <= BENEATH or x >= BEYOND -/
theorem et_bad (hd : KD d) (he : env[i]? = some (some (.d d))) :
    EvT K (tOr (tNot (tTru K (tCB (rIsi K) (tCons (tVar i) (tCons (tC (.ty "int")) tNil))))) (tOr (tTest (tOp (rIsX false) (tVar i) (tC (.bl true)))) (tOr (tTest (tOp (rIsX false) (tVar i) (tC (.bl false))))
      (tOr (tTest (tOp (rI0 fun i j => V.bl (decide (i ≤ j))) (tVar i) (tC (.int (-(10 ^ 60)))))) (tTest (tOp (rI0 fun i j => V.bl (decide (j ≤ i))) (tVar i) (tC (.int (10 ^ 60))))))))) env S (!shD d) S := by
  have h1 : EvT K (tNot (tTru K (tCB (rIsi K) (tCons (tVar i) (tCons (tC (.ty "int")) tNil))))) env S (!isIntD d) S := et_not (et_bl (ev_cb (ea_cons (ev_var he) (ea_cons ev_ty ea_nil)) (ck_int hd)))
  by_cases hi : isIntD d = true
  · rw [hi] at h1
    cases d <;> first
      | (cases hi)
      | skip
    · rename_i v
      refine et_orP (a := false) (b := true) h1 fun _ => ?_
      cases v
      · exact et_orP (a := false) (b := true) (et_test (ev_op (ev_var he) ev_bl (o_isX_blE rfl))) fun _ => et_orP (a := true) (b := false) (et_test (ev_op (ev_var he) ev_bl (o_isX_blE rfl))) fun h => by cases h
      · exact et_orP (a := true) (b := false) (et_test (ev_op (ev_var he) ev_bl (o_isX_blE rfl))) fun h => by cases h
    · rename_i v
      refine et_orP (a := false) (b := !shD (.int v)) h1 fun _ => ?_
      refine et_orP (a := false) (b := !shD (.int v)) (et_test (ev_op (ev_var he) ev_bl o_isX_int)) fun _ => ?_
      refine et_orP (a := false) (b := !shD (.int v)) (et_test (ev_op (ev_var he) ev_bl o_isX_int)) fun _ => ?_
      exact (et_orP (a := decide (v ≤ -(10 ^ 60))) (b := decide (10 ^ 60 ≤ v)) (et_test (ev_op (ev_var he) ev_int o_le)) fun _ => et_test (ev_op (ev_var he) ev_int o_ge)).to (bad_int v)
  · have hf : isIntD d = false := by simpa using hi
    rw [hf] at h1
    have e : shD d = false := by cases d <;> first | rfl | (simp [isIntD] at hf)
    rw [e]
    exact et_orP (a := true) (b := false) h1 fun h => by cases h
end
/-! rows of any value -/
def rowB (n : Nat) : Dat → Bool
  | .tup xs => decide (xs.length = n) && xs.all shD
  | _ => false
def srB (d : Dat) (lo hi : Int) : Bool := match d with
  | .tup xs => decide (lo ≤ xs.length) && decide ((xs.length : Int) ≤ hi) && xs.all shD
  | _ => false
def asrB (v : Dat) (mr ml : Int) : Bool := match v with
  | .tup (r0 :: rs) => decide (((r0 :: rs).length : Int) ≤ mr) && (isTupD r0 && (decide (1 ≤ lenD r0) && decide ((lenD r0 : Int) ≤ ml)) && (r0 :: rs).all (rowB (lenD r0)))
  | _ => false
def intD : Dat → Int
  | .int i => i
  | _ => 0
def ascB : List (List Int) → Bool
  | [] => true
  | [_] => true
  | x :: y :: r => RwS.lx x y && ascB (y :: r)
def lotB (v : Dat) : Bool := asrB v 400 8 && ascB ((innD v).map fun r => (innD r).map intD)
def rdB : Dat → Bool
  | .tup [a, b] => lotB a && lotB b && decide (lenD ((innD a).getD 0 .non) = lenD ((innD b).getD 0 .non))
  | _ => false
theorem shD_int {d : Dat} (h : shD d = true) : d = .int (intD d) := by
  cases d <;> first | rfl | (simp [shD] at h)
theorem all_sh {xs : List Dat} (h : xs.all shD = true) : xs = (xs.map intD).map Dat.int := by
  induction xs with
  | nil => rfl
  | cons x xs ih =>
    rw [List.all_cons, Bool.and_eq_true] at h
    rw [List.map_cons, List.map_cons, ← ih h.2, ← shD_int h.1]
theorem asr_rows {v : Dat} {mr ml : Int} (h : asrB v mr ml = true) : ∃ (n : Nat) (rows : List (List Int)), v = .tup (rows.map fun r => Dat.tup (r.map Dat.int)) ∧ rows ≠ [] ∧ (rows.length : Int) ≤ mr ∧ 1 ≤ n ∧ (n : Int) ≤ ml ∧ (∀ r ∈ rows, r.length = n ∧ ∀ x ∈ r, -(10 ^ 60) < x ∧ x < 10 ^ 60) := by
  unfold asrB at h
  split at h
  · rename_i r0 rs
    simp only [Bool.and_eq_true, decide_eq_true_eq] at h
    obtain ⟨h1, ⟨h2, h3, h4⟩, h5⟩ := h
    refine ⟨lenD r0, (r0 :: rs).map fun r => (innD r).map intD, ?_, by simp, by simpa using h1, h3, h4, fun r hr => ?_⟩
    · congr 1
      rw [List.map_map]
      have key : ∀ l : List Dat, l.all (rowB (lenD r0)) = true → l = l.map ((fun r => Dat.tup (r.map Dat.int)) ∘ fun r => (innD r).map intD) := by
        intro l
        induction l with
        | nil => intro _; rfl
        | cons d l ih =>
          intro hl
          rw [List.all_cons, Bool.and_eq_true] at hl
          rw [List.map_cons, ← ih hl.2]
          congr 1
          cases d <;> first
            | (have := hl.1; simp [rowB] at this; done)
            | (rename_i xs
               have hx := hl.1
               unfold rowB at hx
               rw [Bool.and_eq_true] at hx
               exact congrArg Dat.tup (all_sh hx.2))
      exact key _ h5
    · obtain ⟨d, hd, rfl⟩ := List.mem_map.mp hr
      have hx := List.all_eq_true.mp h5 d hd
      cases d <;> first
        | (simp [rowB] at hx; done)
        | (rename_i xs
           unfold rowB at hx
           rw [Bool.and_eq_true, decide_eq_true_eq] at hx
           refine ⟨by show (List.map intD xs).length = _; rw [List.length_map]; exact hx.1, fun x hxm => ?_⟩
           obtain ⟨e, he, rfl⟩ := List.mem_map.mp hxm
           have hs := List.all_eq_true.mp hx.2 e he
           have e2 := shD_int hs
           rw [e2] at hs
           unfold shD at hs
           rw [Bool.and_eq_true, decide_eq_true_eq, decide_eq_true_eq] at hs
           exact hs)
  · cases h
/-! a promise with two cases -/
theorem spr_or {K : PySem.W.Frag} {G1 G2 : List Sl → List Dat → Out → List Dat → Prop} {vs : List V} {H : Hp} {Q : VK} {E : XK} (h : SpR K (fun ss S o S' => G1 ss S o S' ∨ G2 ss S o S') vs H Q E) : SpR K G1 vs H Q E ∨ SpR K G2 vs H Q E := by
  obtain ⟨B, as, S, ss, o, S', c, rs, g, q, qx⟩ := h
  rcases g with g | g
  · exact .inl ⟨B, as, S, ss, o, S', c, rs, g, q, qx⟩
  · exact .inr ⟨B, as, S, ss, o, S', c, rs, g, q, qx⟩
theorem passR {X : Cx} {E : XK} (tk : Takes X (fun cls d _ H => E cls d H)) : Passes (L2.CX X.prog X.w) X E := passes_call tk fun _ _ _ _ h => h
end RW

set_option Elab.async false
set_option linter.all false
set_option maxRecDepth 100000
set_option maxHeartbeats 4000000
namespace RW
open PySem PySem.Spec PyProof.Rows L2
open Evl (Ex)
/-- an expression that is never reached -/
theorem pe_no {X : Cx} {e : Expr} : PE X e (fun _ _ _ => False) := ⟨fun _ _ _ _ _ _ h => h.elim⟩
/-- one of several readings -/
theorem pe_any {X : Cx} {e : Expr} {ι : Type} {t : ι → TE} (h : ∀ i, PE X e (t i)) : PE X e (fun σ H Q => ∃ i, t i σ H Q) := ⟨fun pins s σ H Q I ⟨i, q⟩ => (h i).run pins s σ H Q I q⟩
/-! ### a local name that holds a def which may raise -/
structure HeldX (P : Program) (w : World) (K : PySem.W.Frag) (mg : Str → Option Value) (base : Heap) (k : Nat) (f : Addr) (sp : Sp) : Prop where
  ex : ∃ (fd : FuncData) (ps : List Str), FnOk P w K mg base (L2.CX P w) k f fd ps sp ∧ PySem.W.keepIn K (.ref f) = true ∧ Binds K fd ps []
def tCallX (i : Nat) (M : Addr → Option Sp) (E : XK) (t : TA) : TE := fun σ H Q => ∃ j : Addr × { sp : Sp // True }, M j.1 = some j.2.1 ∧ σ[i]? = some (some (.ref j.1)) ∧ t σ H fun vs H1 => j.2.1 (vs ++ []) H1 Q E
theorem pe_callLX {X : Cx} {k i : Nat} {M : Addr → Option Sp} {E : XK} {x : Str} {p pos : Pos} {e : Expr} {es : List Expr} {t : TA} (A : ∀ f sp, M f = some sp → HeldX X.prog X.w X.K X.mg X.base k f sp) (hr : Room k X.A) (hx : Passes (L2.CX X.prog X.w) X E) (ha : PA X (e :: es) t) (hN : X.N[i]? = some x := by rfl)
    (hv : Vis X.env.scope x := by first | exact Or.inl rfl | exact Or.inr (Or.inl rfl) | exact Or.inr (Or.inr rfl)) (hdb : (x == ("__debug__" : Str)) = false := by decide) (hcd : (x == ("__classdict__" : Str)) = false := by decide)
    (he : starEach (e :: es) X.env = (false, eval e X.env) :: starEach es X.env := by rfl) (hpl : (backTo pos (starEach es X.env)).any (·.1) = false := by rfl) : PE X (.Call (.Name x p) (e :: es) [] pos) (tCallX i M E t) := by
  refine ⟨fun pins s σ H Q I h => ?_⟩
  obtain ⟨⟨f, sp, _⟩, hM, hs, ht⟩ := h
  obtain ⟨fd, ps, F, hk, hb⟩ := (A f sp hM).ex
  exact (pe_callL (i := i) (f := f) (sp := sp) (dvs := []) (E := E) F hr hN hv hk hb .nil hx ha hdb hcd he hpl).run pins s σ H Q I ⟨hs, ht⟩
section
variable {K : PySem.W.Frag} {env : Env1} {S S1 S2 : List Dat} {d : Dat} {i : Nat} {tA : TA} {M : Addr → Option Sp} {E : XK} {f C : Addr} {p : Option (Str × Dat)} {G : List Sl → List Dat → Out → List Dat → Prop} {ss : List Sl} {te ta tb : TE}
theorem ev_callLR (hi : env[i]? = some (some (.d (.adr f)))) (hM : M f = some (SpR K G)) (h : EvA K tA env S ss S1) (hg : G ss S1 (.val d) S2) : Ev K (tCallX i M E tA) env S (.d d) S2 := fun B H as σ c g Q q => by
  obtain ⟨v, h1, h2⟩ := g.2 i _ hi
  cases h2
  exact ⟨(f, ⟨_, trivial⟩), hM, h1, ev_callR h hg B H as σ c g Q q⟩
theorem ev_callLX (hi : env[i]? = some (some (.d (.adr f)))) (hM : M f = some (SpR K G)) (h : EvA K tA env S ss S1) (hg : G ss S1 (.exc C p) S2) : EvX K E (tCallX i M E tA) env S C p S2 := fun B H as σ c g w Q => by
  obtain ⟨v, h1, h2⟩ := g.2 i _ hi
  cases h2
  exact ⟨(f, ⟨_, trivial⟩), hM, h1, ev_callX h hg B H as σ c g w Q⟩
/-- {} as a value -/
theorem ev_dd : Ev K tDNewT env S (.d .dd) S := fun B H as σ c g Q q => fun p hp =>
  q (.ref p) (upd B p (.dT [])) _ (c.new hp) (Evo.new c hp) (.dd upd_same)
/-- x * n of a text -/
def rMulS : R2 := fun x y H Q => ∃ a n, x = .str a ∧ y = .int n ∧ MulOk a n ∧ Q (.str (Txt.mul a n)) H
theorem op_mulS {X : Cx} : OpR X (binaryOp .Mult) rMulS := by
  intro pins s σ H x y v u Q I rx ry h
  obtain ⟨a, n, rfl, rfl, hm, q⟩ := h
  obtain ⟨t, rfl⟩ := rx
  obtain ⟨t2, rfl⟩ := ry
  exact SB.mul hm fun t' k => ⟨.str (Txt.mul a n), H, I.tok _, ⟨_, rfl⟩, q⟩
theorem o_mulS {a : Str} {n : Int} (h : MulOk a n) : Op2 K rMulS (.d (.str a)) (.d (.int n)) S (.str (Txt.mul a n)) := fun B H as v w c r1 r2 Q q => by
  cases r1; cases r2
  exact ⟨a, n, rfl, rfl, h, q _ B H c Evo.refl (.str _)⟩
end
/-! ### the end of a law with lambdas -/
structure LamEnd (l : PySem.W.OpenLaw) (q : Program) (w : World) (K : PySem.W.Frag) (k n : Nat) (x : Str) (mg : Str → Option Value) (fa : Addr) : Prop where
  ex : ∃ (fd : FuncData) (cs : List (Addr × Addr)) (sp : Sp), (∀ p ∈ cs, ∃ (y : Str) (d : DefRec), (recsOf q).find? (fun e => e.name == y) = some d ∧ PySem.W.tabIn K y = some p) ∧ (∀ p ∈ cs, K.lookup p.2 = none) ∧ (∀ (s : Shared) (u : Value), BindsTo s fd ⟨[u], []⟩ [(x, u)]) ∧
    (∀ (H : Hp) (a : Addr) (ns : List Int), ns.length ≤ n → (∀ z ∈ ns, Builtin.Int.intBits z ≤ 1048576) → (∀ p ∈ cs, H p.2 = some (.tbl #[])) → SqL K H a (ns.map V.int) → sp [.ref a] H (fun v _ => v = .bl true) fun _ _ _ => False) ∧
    ∀ base : Heap, K.In base → base.Ns mainGlobals mg → (∀ p ∈ cs, LamX.TabB base mg p.1 p.2) → FnOk l.prog w K mg base CX0 k fa fd [x] sp
theorem walk_lam {l : PySem.W.OpenLaw} {n k : Nat} {q : Program} {loose : List Str} {XP : (Str → Option Value) → Heap → Prop} {YP : World → Heap → Prop} {d : DefRec} {K : Params → PySem.W.Frag} {x : Str}
    (hn : l.most = some n) (hn2 : n ≤ sizeLine) (hdf : d.params.defaults = []) (hr : Room k callerA) (hY : ∀ (w : World) (h : Heap), YP w h → (K w.params).In h)
    (F : ∀ (w : World) (mg : Str → Option Value) (fa : Addr) (h : Heap), (K w.params).In h → h.Ns mainGlobals mg → mg d.name = some (.ref fa) → LamEnd l q w (K w.params) k n x mg fa) :
    PySem.W.WalkO q loose XP YP l.row.toRowW d [] (fun f vs => PySem.call f vs) := by
  refine Att.attach_callB hn hdf fun w s₀ s₁ mg mb fa o pm cd doc a vs ns G Y ho hd hcd hmg hobj hints hlen hbits hg => ?_
  have KX := hY w _ Y
  obtain ⟨fd, cs, sp, hT, nT, hb, hsp, hF⟩ := (F w mg fa _ KX G.T.g hmg).ex
  have key : ∀ p ∈ cs, PySem.W.CodeHd s₁.heap p.1 p.2 ∧ s₁.heap.get? p.2 = some (PySem.W.tabObj #[]) := fun p hp => by
    obtain ⟨y, d', h1, h2⟩ := hT p hp
    exact PySem.W.tab_of G.T KX h1 h2
  exact LamX.law_callTs KX G.T.g G.T.b G.T.builtins G.T.nolimit hg (fun p hp => (key p hp).2) nT (fun p hp => (key p hp).1) G.T.bmain hobj hints (Nat.le_trans hlen hn2) hr hF hb (fun H hH hS => hsp H a ns hlen hbits hH hS) fun H e s' z => z
/-! ### the start: the script, and the tables among what is changed -/
section
variable {K : PySem.W.Frag} {B H : Hp} {a : Addr} {ns : List Int} {Ts : List (Addr × Str)}
theorem tabs_ok (nd : (Ts.map (·.1)).Nodup) (hH : ∀ p ∈ Ts, H p.1 = some (.tbl #[])) (ex : Ex B H) (hB : ∀ p ∈ Ts, B p.1 = none) (nt : ∀ (a : Addr) (ps : Array Value), B a ≠ some (.tbl ps)) :
    Ok K B H (Ts.map (·.1)) (Ts.map fun p => Dat.tab p.1 p.2) := by
  have key : ∀ (k : Nat) (b : Addr) (s : Dat), (Ts.map (·.1))[k]? = some b → (Ts.map fun p => Dat.tab p.1 p.2)[k]? = some s → ∃ q, s = .tab b q ∧ (b, q) ∈ Ts := fun k b s h1 h2 => by
    rw [List.getElem?_map, Option.map_eq_some_iff] at h1 h2
    obtain ⟨p, hp, rfl⟩ := h1
    obtain ⟨p2, hp2, rfl⟩ := h2
    rw [hp] at hp2; cases hp2
    exact ⟨p.2, rfl, List.mem_of_getElem? hp⟩
  refine ⟨ex, by simp, fun k b s h1 h2 => ?_, nd, fun k b s o h1 h2 h3 => ?_, nt, fun k d P h hd => ?_⟩
  · obtain ⟨q, rfl, hm⟩ := key k b s h1 h2
    refine ⟨hB _ hm, _, hH _ hm, trivial, fun pos cv h => ?_⟩
    cases h
  · obtain ⟨q, rfl, hm⟩ := key k b s h1 h2
    rw [hH _ hm] at h3
    cases h3
    exact fun _ _ _ _ z => nomatch z
  · rw [List.getElem?_map, Option.map_eq_some_iff] at h
    obtain ⟨p, hp, rfl⟩ := h
    cases hd
    rw [List.getElem?_map, hp]; rfl
theorem tabs_start (nd : (Ts.map (·.1)).Nodup) (hH : ∀ p ∈ Ts, H p.1 = some (.tbl #[])) (hS : SqL K H a (ns.map V.int)) :
    ∃ B, Ok K B H (Ts.map (·.1)) (Ts.map fun p => Dat.tab p.1 p.2) ∧ Rep K B (.ref a) (.scr ns) := by
  rcases hS with h | h
  · have nt : ∀ ps : Array Value, H a ≠ some (.tbl ps) := fun ps e => by
      rcases h with h | ⟨o, h⟩ <;> rw [e] at h <;> cases h
    refine ⟨fun b => if b = a then H a else none, tabs_ok nd hH (fun b o e => ?_) (fun p hp => ?_) (fun b ps e => ?_), .scr (.inl ?_)⟩
    · split at e
      · rename_i hb
        rw [hb]; exact e
      · cases e
    · split
      · rename_i e
        rw [← e, hH p hp] at nt
        exact absurd rfl (nt _)
      · rfl
    · split at e
      · exact nt ps e
      · cases e
    · unfold Rd at h ⊢
      have e : (fun b => if b = a then H a else none) a = H a := if_pos rfl
      rw [e]
      exact h
  · exact ⟨fun _ => none, tabs_ok nd hH (fun b o e => by cases e) (fun _ _ => rfl) (fun _ _ e => by cases e), .scr (.inr h)⟩
theorem all_tabs : AllTabs Ts (Ts.map fun p => Dat.tab p.1 p.2) := by
  refine ⟨fun p hp => ?_, fun k P q h => ?_⟩
  · obtain ⟨k, hk⟩ := List.getElem?_of_mem hp
    exact ⟨k, by rw [List.getElem?_map, hk]; rfl⟩
  · rw [List.getElem?_map, Option.map_eq_some_iff] at h
    obtain ⟨p, hp, e⟩ := h
    cases e
    exact List.mem_of_getElem? hp
end
theorem tab_in {K : PySem.W.Frag} {x : Str} {f c P : Addr} {oc cc : Value} {od cd' : Option Addr} {fd : FuncData} {sl csl : Array (Option Value)} {vs : Array Value} (h1 : PySem.W.nsIn K mainGlobals x = some (some (.ref f))) (h2 : K.lookup f = some ⟨oc, od, .func fd, sl⟩) (h3 : fd.code = .ref c)
    (h4 : K.lookup c = some ⟨cc, cd', .fields vs, csl⟩) (h5 : (vs[11]? : Option Value) = some (.ref P)) : PySem.W.tabIn K x = some (c, P) := by
  unfold PySem.W.tabIn
  rw [h1]
  dsimp only
  rw [h2]
  dsimp only
  rw [h3]
  dsimp only
  rw [h4]
  dsimp only
  rw [h5]
theorem exm_of {K : PySem.W.Frag} {C D : Addr} {b : Bool} (be : PySem.W.subIn K (.ref D) (.type "BaseException") = some true) (ic : PySem.W.isClsIn K D = true) (ty : PySem.W.typeIn K (.ref D) = some (.type "type")) (sb : PySem.W.subIn K (.ref C) (.ref D) = some b) :
    PySem.W.exmOne K (.ref C) (.ref D) = some b := by
  unfold PySem.W.exmOne
  rw [be, if_pos (by simp)]
  unfold PySem.W.kitCls
  have h4 : (PySem.W.clsIn K D).isSome = true := ic
  dsimp only
  rw [h4, ty, if_pos (by simp), sb]
theorem rec_of {q : Program} {y : Str} (h : ((recsOf q).find? fun e => e.name == y).isSome = true) : ∃ d : DefRec, (recsOf q).find? (fun e => e.name == y) = some d := Option.isSome_iff_exists.mp h
end RW

set_option Elab.async false
set_option linter.all false
set_option maxRecDepth 100000
set_option maxHeartbeats 4000000
namespace RW
open PySem PySem.Spec PyProof.Rows L2
open Evl (Ex)
/-! ### defs that are run where nothing is being shown (repr of a tuple or a list wants to know it) -/
abbrev Calm (A : Around) : Prop := A.guards = some []
structure FnG (P : Program) (w : World) (K : PySem.W.Frag) (mg : Str → Option Value) (base : Heap) (cx : CXT) (n : Nat) (f : Addr) (fd : FuncData) (ps : List Str) (sp : Sp) : Prop where
  many : ∀ xs H Q E, sp xs H Q E → xs.length = ps.length
  does : ∀ (A : Around) (up : List Env) (t : Shared) (H : Hp) (args : Args) (us : List Value) (xs : List V) (Q : VK) (E : XK), Calm A → Room n A → Env0 P w K mg base A up t H → Vals xs us → BindsTo t fd args (ps.zip us) → sp xs H Q E →
    codeAny (model P w) A (.call (.ref f) args) (CR cx up P w H t Q E) t
section
variable {P : Program} {w : World} {K : PySem.W.Frag} {mg : Str → Option Value} {base : Heap} {cx : CXT} {n : Nat} {f : Addr} {fd : FuncData} {ps : List Str} {sp : Sp}
theorem FnG.of (F : FnOk P w K mg base cx n f fd ps sp) : FnG P w K mg base cx n f fd ps sp :=
  ⟨F.len, fun A up t H args us xs Q E _ hr e hv hb hs => F.run A up t H args us xs Q E hr e hb hv hs⟩
/-- a def by its body, as long as nothing is being shown around it -/
theorem fng_body {name qual : Str} {prm : Arguments} {body : List Stmt} {sc : Scope} {v1 v2 v3 v4 cdv ct oc : Value} {an od : Option Addr} {osl : Array (Option Value)} {N : List Str}
    (lk : K.lookup f = some ⟨oc, od, .func (PySem.W.fnOf name qual prm body sc v1 v2 v3 v4 an cdv ct), osl⟩) (hcd : PySem.W.codeIn K cdv qual = true) (S : FnScope N ps sc) (many : ∀ xs H Q E, sp xs H Q E → xs.length = ps.length)
    (hb : ∀ (A : Around) (up : List Env) (t : Shared) (H : Hp) (xs : List V) (Q : VK) (E : XK), Calm (A.deeper (envOfC qual sc t.heap.objs.size f cdv)) → Room n (A.deeper (envOfC qual sc t.heap.objs.size f cdv)) → sp xs H Q E →
      ∃ r, PSs (cxOf cx P w K mg base N qual sc f cdv A up t H E) body r ∧ r { rt := Q, nx := fun _ T => Q .non T } (start N xs) H) :
    FnG P w K mg base cx (n + 1) f (PySem.W.fnOf name qual prm body sc v1 v2 v3 v4 an cdv ct) ps sp where
  many := many
  does := fun A up t H args us xs Q E hc hr e0 rv hargs hsp => by
    have hK : K.In t.heap := e0.mod.kin.keeps fun a o h => (e0.bs a o h).1
    refine codeAny_call_function hr.depth (hK _ _ lk) rfl S.co S.gen rfl (PySem.W.codeRec_of hK hcd) (hargs _ _ _ _ (wpAny_newFunctionEnv_cells S.kind (fun z hz => ?_) fun env he t1 fresh => ?_))
    · have hp := (List.of_mem_zip (show (z.1, z.2) ∈ ps.zip us from hz)).1
      exact (S.par _ hp).imp id fun h => ⟨h, PySem.W.cellsFrom_some _ _ _ (.inl h)⟩
    · subst he
      have hno : t.heap.NoLimit := e0.mod.nolimit.keeps fun a o h => (e0.bs a o h).1
      obtain ⟨r, hp, hq⟩ := hb A up t H xs Q E hc (hr.deeper _) hsp
      have J := inv_start (CX := cx) (E := E) S hr.hd e0 (many _ _ _ _ hsp) rv fresh
      refine ⟨hno.keeps fresh.toInCall.keep, codeAny_func (wpAny_mono (hp.run [] t1 _ H _ J hq) (fun fl t2 z => ?_) fun _ _ z => z)⟩
      cases fl with
      | next =>
        obtain ⟨_, H2, I2, q2⟩ := z
        exact ⟨.non, H2, I2.os, I2.bare, I2.base, I2.hok, rfl, q2⟩
      | ret u =>
        obtain ⟨x, _, H2, I2, ru, q2⟩ := z
        exact ⟨x, H2, I2.os, I2.bare, I2.base, I2.hok, ru, q2⟩
      | brk =>
        obtain ⟨_, _, _, no⟩ := z
        exact no.elim
      | cont =>
        obtain ⟨_, _, _, no⟩ := z
        exact no.elim
end
section
variable {X : Cx} {cx : CXT} {n : Nat} {f : Addr} {fd : FuncData} {ps : List Str} {sp : Sp} {E : XK} {x : Str} {p pos : Pos} {e : Expr} {es : List Expr} {t : TA}
/-- f(..) of such a def -/
theorem pe_callG (F : FnG X.prog X.w X.K X.mg X.base cx n f fd ps sp) (hc : Calm X.A) (hr : Room n X.A) (hg : Gl X x) (hm : X.mg x = some (.ref f)) (hk : PySem.W.keepIn X.K (.ref f) = true) (hb : L2.Binds X.K fd ps []) (hx : Passes cx X E) (ha : PA X (e :: es) t)
    (hdb : (x == ("__debug__" : Str)) = false := by decide) (he : starEach (e :: es) X.env = (false, eval e X.env) :: starEach es X.env := by rfl) (hpl : (backTo pos (starEach es X.env)).any (·.1) = false := by rfl) :
    PE X (.Call (.Name x p) (e :: es) [] pos) (tCall sp [] E t) := ⟨fun pins s σ H Q I h => by
  refine wpAny_Call_Name_kw (ld_glob I hg hm (PySem.W.callWith_K (h₀ := X.base) I.ok.mod.kin hk (thn (ha.run pos pins s σ H _ I h) fun us s1 q1 => ?_) he hpl) hdb)
  obtain ⟨xs, H1, I1, rv, hs⟩ := q1
  rw [List.append_nil] at hs
  have hn : us.length = ps.length := rv.length.symm.trans (F.many _ _ _ _ hs)
  have hbt : BindsTo s1 fd ⟨us, []⟩ (ps.zip us) := by
    have z := hb s1 us I1.kIn (by rw [List.append_nil]; exact hn)
    rwa [List.append_nil] at z
  refine ⟨I1.kIn, wpAny_call (codeAny_mono (F.does X.A X.stack s1 H1 ⟨us, []⟩ us xs Q E hc hr I1.env0 rv hbt hs) fun r s2 hq => ?_)⟩
  rcases r with err | fl
  · exact hx pins σ H1 s1 err s2 I1 hq
  · cases fl <;> first | exact I1.after hq | exact hq.elim⟩
end
/-! ### the law's end -/
section
variable {P : Program} {w : World} {K : PySem.W.Frag} {mg mb : Str → Option Value} {cx : CXT} {n : Nat} {fa a : Addr} {cs : List (Addr × Addr)} {fd : FuncData} {x : Str} {sp : Sp} {s : Shared} {vs : List Value} {ns : List Int}
/-- what is tracked when the law starts: the tables, and the script where the text doesn't hold it -/
def H1st (K : PySem.W.Frag) (cs : List (Addr × Addr)) (a : Addr) (vs : List Value) (ns : List Int) : Hp := fun b =>
  if b ∈ cs.map (·.2) then some (.tbl #[]) else if b = a ∧ K.lookup a = none then some (.frz { cls := .type "list", data := .seq vs.toArray } (.lst (ns.map V.int))) else none
theorem h1_tab {b : Addr} (h : b ∈ cs.map (·.2)) : H1st K cs a vs ns b = some (.tbl #[]) := if_pos h
theorem h1_a (h : a ∉ cs.map (·.2)) (hk : K.lookup a = none) : H1st K cs a vs ns a = some (.frz { cls := .type "list", data := .seq vs.toArray } (.lst (ns.map V.int))) := (if_neg h).trans (if_pos ⟨rfl, hk⟩)
theorem h1_some {b : Addr} {u : HO} (h : H1st K cs a vs ns b = some u) : (b ∈ cs.map (·.2) ∧ u = .tbl #[]) ∨ (b = a ∧ K.lookup a = none ∧ u = .frz { cls := .type "list", data := .seq vs.toArray } (.lst (ns.map V.int))) := by
  unfold H1st at h
  split at h
  · next hb => exact .inl ⟨hb, (Option.some.inj h).symm⟩
  · split at h
    · next hb => exact .inr ⟨hb.1, hb.2, (Option.some.inj h).symm⟩
    · cases h
structure Start1 (K : PySem.W.Frag) (mg mb : Str → Option Value) (cs : List (Addr × Addr)) (a : Addr) (vs : List Value) (ns : List Int) (s : Shared) : Prop where
  kin : K.In s.heap
  glob : s.heap.Ns mainGlobals mg
  blt : s.heap.Ns builtinsNs mb
  blt2 : ∀ x : Str, x ≠ "__name__" → mb x = bootBuiltins x
  nolim : s.heap.NoLimit
  gens : s.gens = #[]
  tab : ∀ p ∈ cs, s.heap.get? p.2 = some { cls := .none, data := .fields #[] }
  ntab : ∀ p ∈ cs, K.lookup p.2 = none
  code : ∀ p ∈ cs, PySem.W.CodeHd s.heap p.1 p.2
  bmod : ∃ (bm : Addr) (ob : Obj), mg "__builtins__" = some (.ref bm) ∧ bm ≠ builtinsNs ∧ s.heap.get? bm = some ob ∧ ob.cls = .type "module" ∧ ob.dict = some builtinsNs ∧ ob.data = .plain
  obj : s.heap.get? a = some { cls := .type "list", data := .seq vs.toArray }
  are : IntsAre vs ns
  len : ns.length ≤ sizeLine
variable (Z : Start1 K mg mb cs a vs ns s)
include Z
theorem Start1.tabAt {b : Addr} (h : b ∈ cs.map (·.2)) : s.heap.get? b = some { cls := .none, data := .fields #[] } := by
  obtain ⟨q, hq, rfl⟩ := List.mem_map.mp h
  exact Z.tab q hq
theorem Start1.notTab : a ∉ cs.map (·.2) := fun h => by
  have h2 := (Z.tabAt h).symm.trans Z.obj
  have h3 := congrArg Obj.data (Option.some.inj h2)
  cases h3
/-- what is neither a list nor an empty table is not tracked -/
theorem Start1.off {b : Addr} {o : Obj} (e : s.heap.get? b = some o) (h1 : ∀ its k, o.data ≠ .seq its k) (h2 : o.data ≠ .fields #[]) : H1st K cs a vs ns b = none := by
  cases h : H1st K cs a vs ns b with
  | none => rfl
  | some u =>
    rcases h1_some h with ⟨hb, _⟩ | ⟨rfl, _, _⟩
    · have z := e.symm.trans (Z.tabAt hb)
      cases z
      exact absurd rfl h2
    · have z := e.symm.trans Z.obj
      cases z
      exact absurd rfl (h1 _ _)
theorem Start1.free {b : Addr} {o : Obj} (h : K.lookup b = some o) : H1st K cs a vs ns b = none := by
  cases e : H1st K cs a vs ns b with
  | none => rfl
  | some u =>
    rcases h1_some e with ⟨hb, _⟩ | ⟨rfl, hk, _⟩
    · obtain ⟨q, hq, rfl⟩ := List.mem_map.mp hb
      rw [Z.ntab q hq] at h; cases h
    · rw [hk] at h; cases h
theorem Start1.keepNs {b : Addr} {m : Str → Option Value} (h : s.heap.Ns b m) : (hidT s.heap (H1st K cs a vs ns)).Ns b m := by
  obtain ⟨o, es, k, e, hd, r⟩ := h
  refine ⟨o, es, k, hidT_get e (Z.off e (fun its j z => ?_) fun z => ?_), hd, r⟩ <;> (rw [hd] at z; cases z)
theorem Start1.mod : L2.Mod K mg (hidT s.heap (H1st K cs a vs ns)) where
  kin := fun b o e => hidT_get (Z.kin b o e) (Z.free e)
  glob := Z.keepNs Z.glob
  blt := ⟨mb, Z.keepNs Z.blt, Z.blt2⟩
  nolimit := by
    obtain ⟨m, h1, h2⟩ := Z.nolim
    exact ⟨m, Z.keepNs h1, h2⟩
theorem Start1.tabB {p : Addr × Addr} (hp : p ∈ cs) : LamX.TabB (hidT s.heap (H1st K cs a vs ns)) mg p.1 p.2 where
  code := by
    obtain ⟨o, us, fi, tf, fl, tg, b, tx, tt, e1, e2, e3, e4, r⟩ := Z.code p hp
    refine ⟨o, us, fi, tf, fl, tg, b, tx, tt, hidT_get e1 (Z.off e1 (fun its j z => ?_) fun z => ?_), e2, e3, e4, r⟩
    · rw [e3] at z; cases z
    · rw [e3] at z
      cases z
      simp at e4
  bm := by
    obtain ⟨bm, ob, h1, h2, h3, h4, h5, h6⟩ := Z.bmod
    refine ⟨bm, ob, h1, h2, fun z => ?_, fun z => ?_, hidT_get h3 (Z.off h3 (fun its j z => ?_) fun z => ?_), h4, h5, h6⟩
    · obtain ⟨o, es, k, e, hd, _⟩ := Z.glob
      rw [z] at h3
      have y := h3.symm.trans e
      cases y
      rw [h6] at hd; cases hd
    · rw [z] at h3
      have y := h3.symm.trans (Z.tab p hp)
      cases y
      cases h6
    · rw [h6] at z; cases z
    · rw [h6] at z; cases z
  gP := fun z => by
    obtain ⟨o, es, k, e, hd, _⟩ := Z.glob
    rw [z] at e
    have y := e.symm.trans (Z.tab p hp)
    cases y
    cases hd
theorem Start1.hok : HOk P w (H1st K cs a vs ns) s.heap := fun b u h => by
  rcases h1_some h with ⟨hb, rfl⟩ | ⟨rfl, _, rfl⟩
  · exact Z.tabAt hb
  · exact ⟨Z.obj, by rw [List.length_map]; exact Z.len, vs, _, vals_ints Z.are, Z.obj⟩
theorem Start1.sq : SqL K (H1st K cs a vs ns) a (ns.map V.int) := by
  cases hk : K.lookup a with
  | none => exact .inl (.inr ⟨_, h1_a Z.notTab hk⟩)
  | some o =>
    have y := (Z.kin a o hk).symm.trans Z.obj
    cases y
    refine .inr ⟨_, vs.toArray, _, hk, rfl, rfl, rfl, ?_, by simpa using vals_ints Z.are⟩
    rw [List.size_toArray, Z.are.length]; exact Z.len
theorem Start1.env0 : Env0 P w K mg (hidT s.heap (H1st K cs a vs ns)) callerA [] s (H1st K cs a vs ns) where
  frames := rfl
  mod := Z.mod
  bs := fun b o e => of_hidT e
  bsz := Nat.le_of_eq (hidT_size _ _)
  funs := trivial
  frf := fun b hb => (List.not_mem_nil (show b ∈ ([] : List Addr) from hb)).elim
  hok := Z.hok
  bare := .of_eq Z.gens
theorem Start1.old {H' : Hp} {s' : Shared} (un : Un (frs []) [] (H1st K cs a vs ns) H' s.heap s'.heap) (hok' : HOk P w H' s'.heap) : OldK s.heap s'.heap := by
  have stays : ∀ {b : Addr} {o : Obj}, b ∉ cs.map (·.2) → s.heap.get? b = some o → s'.heap.get? b = some o := fun {b o} nb e => by
    cases h : H1st K cs a vs ns b with
    | none => exact un.keep b o e h (List.not_mem_nil (a := b)) (List.not_mem_nil (a := b))
    | some u =>
      rcases h1_some h with ⟨hb, _⟩ | ⟨rfl, _, rfl⟩
      · exact absurd hb nb
      · have y := e.symm.trans Z.obj
        cases y
        exact (hok' _ _ (un.frzs _ _ _ h)).1
  have more : ∀ {b : Addr}, b ∈ cs.map (·.2) → ∃ us : Array Value, s'.heap.get? b = some { cls := .none, data := .fields us } := fun {b} hb => by
    obtain ⟨us, h⟩ := un.tbls b #[] (h1_tab hb)
    exact ⟨_, hok' b _ h⟩
  refine ⟨fun b o e => ?_, fun b o e => ?_⟩ <;> by_cases hb : b ∈ cs.map (·.2)
  · obtain ⟨us, hm⟩ := more hb
    have y := e.symm.trans (Z.tabAt hb)
    cases y
    obtain ⟨p, hp, rfl⟩ := List.mem_map.mp hb
    exact .inr (.inl ⟨((Z.code p hp).tab (Z.tab p hp)).isCodeTable, rfl, #[], us, rfl, by rw [Array.empty_append]; exact hm⟩)
  · exact .inl (stays hb e)
  · obtain ⟨us, hm⟩ := more hb
    exact ⟨_, hm⟩
  · exact ⟨o, stays hb e⟩
theorem Start1.runs (hr : Room n callerA) (F : ∀ h : Heap, K.In h → h.Ns mainGlobals mg → (∀ p ∈ cs, LamX.TabB h mg p.1 p.2) → FnG P w K mg h cx n fa fd [x] sp) (hbind : ∀ (t : Shared) (u : Value), BindsTo t fd ⟨[u], []⟩ [(x, u)])
    (hsp : ∀ H : Hp, (∀ p ∈ cs, H p.2 = some (.tbl #[])) → SqL K H a (ns.map V.int) → sp [.ref a] H (fun v _ => v = .bl true) fun _ _ _ => False) (hCX : ∀ H e t, cx [] H s (fun _ _ _ => False) e t → False) :
    codeAny (model P w) callerA (.call (.ref fa) ⟨[.ref a], []⟩) (fun r t => r = .ok (.ret (.bool true)) ∧ OldK s.heap t.heap ∧ t.os = s.os ∧ AllBare t.gens) s := by
  have M := Z.mod
  have hq := hsp _ (fun p hp => h1_tab (List.mem_map_of_mem hp)) Z.sq
  refine codeAny_mono ((F _ M.kin M.glob fun p hp => Z.tabB hp).does callerA [] s _ ⟨[.ref a], []⟩ [.ref a] [.ref a] _ _ rfl hr Z.env0 (.cons rfl .nil) (hbind s (.ref a)) hq) fun r t h => ?_
  rcases r with err | fl
  · exact (hCX _ err t h).elim
  · cases fl with
    | ret u =>
      obtain ⟨v, H', os, bare, un, ok', rv, hv⟩ := h
      have hv : v = .bl true := hv
      subst hv
      obtain rfl : u = Value.bool true := rv
      exact ⟨rfl, Z.old un ok', os, bare⟩
    | next => exact h.elim
    | brk => exact h.elim
    | cont => exact h.elim
end
structure LamEndG (l : PySem.W.OpenLaw) (q : Program) (w : World) (K : PySem.W.Frag) (k n : Nat) (x : Str) (mg : Str → Option Value) (fa : Addr) : Prop where
  ex : ∃ (fd : FuncData) (cs : List (Addr × Addr)) (sp : Sp), (∀ p ∈ cs, ∃ (y : Str) (d : DefRec), (recsOf q).find? (fun e => e.name == y) = some d ∧ PySem.W.tabIn K y = some p) ∧ (∀ p ∈ cs, K.lookup p.2 = none) ∧ (∀ (s : Shared) (u : Value), BindsTo s fd ⟨[u], []⟩ [(x, u)]) ∧
    (∀ (H : Hp) (a : Addr) (ns : List Int), ns.length ≤ n → (∀ z ∈ ns, Builtin.Int.intBits z ≤ 1048576) → (∀ p ∈ cs, H p.2 = some (.tbl #[])) → SqL K H a (ns.map V.int) → sp [.ref a] H (fun v _ => v = .bl true) fun _ _ _ => False) ∧
    ∀ base : Heap, K.In base → base.Ns mainGlobals mg → (∀ p ∈ cs, LamX.TabB base mg p.1 p.2) → FnG l.prog w K mg base CX0 k fa fd [x] sp
theorem walk_lamG {l : PySem.W.OpenLaw} {n k : Nat} {q : Program} {loose : List Str} {XP : (Str → Option Value) → Heap → Prop} {YP : World → Heap → Prop} {d : DefRec} {K : Params → PySem.W.Frag} {x : Str}
    (hn : l.most = some n) (hn2 : n ≤ sizeLine) (hdf : d.params.defaults = []) (hr : Room k callerA) (hY : ∀ (w : World) (h : Heap), YP w h → (K w.params).In h)
    (F : ∀ (w : World) (mg : Str → Option Value) (fa : Addr) (h : Heap), (K w.params).In h → h.Ns mainGlobals mg → mg d.name = some (.ref fa) → LamEndG l q w (K w.params) k n x mg fa) :
    PySem.W.WalkO q loose XP YP l.row.toRowW d [] (fun f vs => PySem.call f vs) := by
  refine Att.attach_callB hn hdf fun w s₀ s₁ mg mb fa o pm cd doc a vs ns G Y ho hd hcd hmg hobj hints hlen hbits hg => ?_
  have KX := hY w _ Y
  obtain ⟨fd, cs, sp, hT, nT, hb, hsp, hF⟩ := (F w mg fa _ KX G.T.g hmg).ex
  have key : ∀ p ∈ cs, PySem.W.CodeHd s₁.heap p.1 p.2 ∧ s₁.heap.get? p.2 = some (PySem.W.tabObj #[]) := fun p hp => by
    obtain ⟨y, d', h1, h2⟩ := hT p hp
    exact PySem.W.tab_of G.T KX h1 h2
  have Z : Start1 (K w.params) mg mb cs a vs ns s₁ := ⟨KX, G.T.g, G.T.b, G.T.builtins, G.T.nolimit, hg, fun p hp => (key p hp).2, nT, fun p hp => (key p hp).1, G.T.bmain, hobj, hints, Nat.le_trans hlen hn2⟩
  exact Z.runs hr hF hb (fun H hH hS => hsp H a ns hlen hbits hH hS) fun H e s' z => z
/-! ### repr of numbers, texts, None, tuples and lists -/
def rReprD (K : PySem.W.Frag) : List V → Hp → VK → Prop := fun xs H Q => ∃ v d, xs = [v] ∧ Dp K H v d ∧ (d.canLay0 = true ∧ d.showable = true ∧ d.depth ≤ 60 ∧ d.shown.length ≤ sizeLine) ∧ Q (.str d.shown) H
theorem call_reprD {X : Cx} (K : PySem.W.Frag) (hc : Calm X.A) (hu : X.A.units + 64 < cLine) (hK : X.K = K := by rfl) : CallR X (.builtin "repr") (rReprD K) := by
  subst hK
  intro pins s σ H xs us Q I r h
  obtain ⟨v, d, rfl, hd, ⟨h1, h2, h3, h4⟩, q⟩ := h
  obtain ⟨u, rfl, ru⟩ := vals1 r
  obtain ⟨as, rd⟩ := Dp.reads I d v u hd ru
  have nd := PyData.noDict_hsm (as := as) (PyData.hasDict_of_canLay d h1)
  have tell : ∀ {t : Tok} {tk : Nat}, EP X pins σ Q (.str d.shown t) { s with toks := tk } := fun {t tk} => ⟨.str _, H, I.tok _, ⟨_, rfl⟩, q⟩
  cases hd with
  | non => cases ru; exact PySem.P.repr_of_none tell
  | bl b => cases ru; exact PySem.P.repr_of_bool tell
  | int i =>
    obtain ⟨t, rfl⟩ := ru
    exact PySem.P.repr_of_int (of_decide_eq_true h2) tell
  | str x =>
    obtain ⟨t, rfl⟩ := ru
    exact PySem.P.repr_of_str tell h4
  | lst hs ha =>
    cases ru
    exact repr_of_reads' rd h2 nd hc (by omega) (fun _ _ e => e) (fun h' t tk k => ⟨.str _, H, I.kept k, ⟨_, rfl⟩, q⟩) h4
  | tup hs ha =>
    cases ru
    exact repr_of_reads' rd h2 nd hc (by omega) (fun _ _ e => e) (fun h' t tk k => ⟨.str _, H, I.kept k, ⟨_, rfl⟩, q⟩) h4
/-- what repr gives -/
def reprD (d : Dat) : Str := (py d).shown
theorem cd_reprD {K : PySem.W.Frag} {S : List Dat} {d : Dat} {m : Nat} (h : Pl m d) (hm : m ≤ 60) (h2 : (py d).showable = true) (h3 : (reprD d).length ≤ sizeLine) : CallD K (rReprD K) [.d d] S (.str (reprD d)) S := fun B H as vs c r Q q => by
  cases r with
  | cons r1 rr =>
    cases rr
    exact ⟨_, py d, rfl, h.dp _ (Rep.mono c.ex r1), ⟨h.lay.1, h2, Nat.le_trans h.lay.2 hm, h3⟩, q _ B H c Evo.refl (.str _)⟩
theorem Fun.okG {P : Program} {w : World} {K : PySem.W.Frag} {mg : Str → Option Value} {base : Heap} {x qual : Str} {st : Stmt} {f : Addr} {fd : FuncData} {N ps : List Str} {k : Nat} {sp : Sp} (F : Fun K x qual st f fd) (S : FnScope N ps (defScope st)) (many : ∀ vs H Q E, sp vs H Q E → vs.length = ps.length)
    (hb : ∀ (cdv : Value) (A : Around) (up : List Env) (t : Shared) (H : Hp) (vs : List V) (Q : VK) (E : XK), Calm (A.deeper (envOfC qual (defScope st) t.heap.objs.size f cdv)) → Room k (A.deeper (envOfC qual (defScope st) t.heap.objs.size f cdv)) → sp vs H Q E →
      ∃ r, PSs (cxOf CX0 P w K mg base N qual (defScope st) f cdv A up t H E).nox (defBody st) r ∧ r { nx := fun _ H' => Q .non H', rt := Q } (start N vs) H) : FnG P w K mg base CX0 (k + 1) f fd ps sp := by
  obtain ⟨oc, od, v1, v2, v3, an, cdv, ct, osl, rfl, lk, hcd⟩ := F.ex
  refine fng_body lk hcd S many fun A up t H vs Q E hc hr h => ?_
  obtain ⟨r, h1, h2⟩ := hb cdv A up t H vs Q E hc hr h
  exact ⟨r, PSs.nox h1, h2⟩
end RW

set_option Elab.async false
set_option linter.all false
set_option maxRecDepth 100000
set_option maxHeartbeats 4000000
namespace RW
open PySem PySem.Spec PyProof.Rows L2
open Evl (Ex)
/-- (..) * n, the frame told -/
theorem op_rpAK {X : Cx} (K : PySem.W.Frag) (hK : X.K = K := by rfl) : OpR X (binaryOp .Mult) (RwT.rRepA K) := by
  subst hK; exact RwT.op_repA
theorem op_ctAK {X : Cx} (K : PySem.W.Frag) (hK : X.K = K := by rfl) : OpR X (binaryOp .Add) (rCatA K) := by
  subst hK; exact op_catA
theorem call_lstK {X : Cx} (K : PySem.W.Frag) (hc : X.calm = true) (hK : X.K = K := by rfl) : CallR X (.type "list") (rLstD K) := by
  subst hK; exact call_lstD hc
/-! ### instances whose __init__ may raise -/
section
variable {K : PySem.W.Frag} {tA : TA} {env : Env1} {S S1 S2 : List Dat} {B B4 H H4 B1 H1 : Hp} {as : List Addr} {x dx : Addr} {C C0 : Addr} {ss : List Sl} {E : XK} {fs : List (Str × Dat)} {G : List Sl → List Dat → Out → List Dat → Prop} {p : Option (Str × Dat)} {d : Dat} {vs : List V}
theorem mk_start (c1 : Ok K B1 H1 as S1) (hx : H1 x = none) (hdx : H1 dx = none) : Ok K B1 (upd (upd H1 dx (.own x)) x (.ins C dx [])) (as ++ [x]) (S1 ++ [.ins C []]) := by
  have hB := c1.Bnone hx
  have hxa := c1.fresh hx
  have hdB := c1.Bnone hdx
  have hda := c1.fresh hdx
  have c2 : Ok K B1 (upd (upd H1 dx (.own x)) x (.ins C dx [])) as S1 := (c1.other hdB hda).other hB hxa
  exact c2.push hB hxa (CellAt.ofI upd_same .nil) (fun _ _ _ _ _ _ e q _ => by cases e; cases q)
theorem mk_args (c1 : Ok K B1 H1 as S1) (r1 : RepSs K B1 as vs ss) : RepSs K B1 (as ++ [x]) (.ref x :: (vs ++ [])) (.c S1.length :: ss) := by
  refine .cons ⟨x, by rw [← c1.len]; simp, rfl⟩ ?_
  rw [List.append_nil]
  have grow : ∀ {vs : List V} {ss : List Sl}, RepSs K B1 as vs ss → RepSs K B1 (as ++ [x]) vs ss := by
    intro vs ss h
    induction h with
    | nil => exact .nil
    | cons h _ ih => exact .cons h.grow ih
  exact grow r1
theorem mk_evo (c1 : Ok K B1 H1 as S1) (e1 : Evo B H as B1 H1) (hx : H1 x = none) (hdx : H1 dx = none) (e4 : Evo B1 (upd (upd H1 dx (.own x)) x (.ins C dx [])) (as ++ [x]) B4 H4) : Evo B H as B4 H4 := by
  have e2 : Evo B1 H1 as B1 (upd (upd H1 dx (.own x)) x (.ins C dx [])) := (Evo.refl.other (.of hdx)).other (.of hx)
  have x0 : Nn H x := e1.old hx
  have e12 := e1.trans e2
  refine ⟨e12.ex.trans e4.ex, fun a o hn q nt => e4.fr a o (fun hm => (List.mem_append.mp hm).elim hn fun z => ?_) (e12.fr a o hn q nt) nt, fun a o q nt => let ⟨o1, h1, n1⟩ := e12.pr a o q nt; (e4.gr a o1 h1 n1).elim (fun z => (e12.gr a o q nt).elim (fun z2 => .inl (z.trans z2)) fun ⟨o, fo, h⟩ => .inr ⟨o, fo, e4.tp a o fo h⟩) .inr, fun a o fo h => e4.tp a o fo (e12.tp a o fo h), fun a o q nt => let ⟨o1, h1, n1⟩ := e12.pr a o q nt; e4.pr a o1 h1 n1⟩
  rw [List.mem_singleton.mp z] at q
  exact x0.no q nt
/-- C(e, ..): a new instance, filled by its __init__, which does not raise here -/
theorem ev_makeR (h : EvA K tA env S ss S1) (hg : G (.c S1.length :: ss) (S1 ++ [.ins C []]) (.val .non) (S2 ++ [.ins C fs])) (hl : S2.length = S1.length) :
    Ev K (tMake C (SpR K G) [] E tA) env S (.d (.ins C fs)) S2 := fun B H as σ c g Q q =>
  h B H as σ c g _ fun vs B1 H1 c1 e1 r1 x dx hx hdx hne => by
    refine ⟨B1, as ++ [x], _, _, _, _, mk_start c1 hx hdx, mk_args c1 r1, hg, fun r er v B4 H4 c4 e4 r4 => ?_, fun _ _ z => nomatch z⟩
    cases er
    refine ⟨by cases r4; rfl, ?_⟩
    have hk : (as ++ [x])[as.length]? = some x := by simp
    have hs : (S2 ++ [Dat.ins C fs])[as.length]? = some (.ins C fs) := by
      rw [c1.len, ← hl]; simp
    obtain ⟨hb4, hc4⟩ := c4.cells as.length x _ hk hs
    obtain ⟨dx', ws, hw, rw'⟩ := hc4.ins
    have c5 : Ok K B4 H4 as S2 := by
      have := c4.upto as.length
      rw [List.take_left, show as.length = S2.length by rw [c1.len, hl], List.take_left] at this
      exact this
    have nd := c4.nd
    have hx4 : x ∉ as := fun hm => (List.nodup_append.mp nd).2.2 x hm x (by simp) rfl
    have x0 : Nn H x := e1.old hx
    have e5 : Evo B H as B4 H4 := mk_evo c1 e1 hx hdx e4
    refine q (.ref x) (upd B4 x (.ins C dx' ws)) H4 (c5.know hw hb4 hx4) ⟨e5.ex.trans (Evl.Ex.new hb4), e5.fr, fun a o q nt => by rw [upd_ne (by rintro rfl; exact x0.no q nt)]; exact e5.gr a o q nt, e5.tp, e5.pr⟩ (.ins upd_same (RepF.mono (Evl.Ex.new hb4) rw'))
/-- C(e, ..), its __init__ raises -/
theorem evx_make (h : EvA K tA env S ss S1) (hg : G (.c S1.length :: ss) (S1 ++ [.ins C0 []]) (.exc C p) (S1 ++ [d])) : EvX K E (tMake C0 (SpR K G) [] E tA) env S C p S1 := fun B H as σ c g w Q =>
  h B H as σ c g _ fun vs B1 H1 c1 e1 r1 x dx hx hdx hne => by
    refine ⟨B1, as ++ [x], _, _, .exc C p, _, mk_start c1 hx hdx, mk_args c1 r1, hg, fun r er => (nomatch er), fun C' p' z dd B4 H4 c4 e4 pa => ?_⟩
    cases z
    have c5 : Ok K B4 H4 as S1 := by
      have := c4.upto as.length
      rw [List.take_left, c1.len, List.take_left] at this
      exact this
    exact w dd B4 H4 c5 (mk_evo c1 e1 hx hdx e4) pa
end
section
variable {X : Cx} {cx : CXT} {n : Nat} {f : Addr} {fd : FuncData} {ps : List Str} {sp : Sp} {E : XK} {x : Str} {p pos : Pos}
/-- f() of a def that is run where nothing is being shown -/
theorem pe_callG0 (F : FnG X.prog X.w X.K X.mg X.base cx n f fd ps sp) (hc : Calm X.A) (hr : Room n X.A) (hg : Gl X x) (hm : X.mg x = some (.ref f)) (hk : PySem.W.keepIn X.K (.ref f) = true) (hb : L2.Binds X.K fd ps []) (hx : Passes cx X E)
    (hdb : (x == ("__debug__" : Str)) = false := by decide) : PE X (.Call (.Name x p) [] [] pos) (tCall sp [] E tNil) := ⟨fun pins s σ H Q I h => by
  have hs : sp [] H Q E := h
  refine wpAny_Call_Name_kw (ld_glob I hg hm (PySem.W.callWith_K0 I.kIn hk ?_) hdb)
  have hn : ([] : List Value).length = ps.length := F.many _ _ _ _ hs
  have hbt : BindsTo s fd ⟨[], []⟩ (ps.zip []) := by
    have z := hb s [] I.kIn (by rw [List.append_nil]; exact hn)
    rwa [List.append_nil] at z
  refine wpAny_call (codeAny_mono (F.does X.A X.stack s H ⟨[], []⟩ [] [] Q E hc hr I.env0 .nil hbt hs) fun r s2 hq => ?_)
  rcases r with err | fl
  · exact hx pins σ H s err s2 I hq
  · cases fl <;> first | exact I.after hq | exact hq.elim⟩
end
end RW

set_option Elab.async false
set_option linter.all false
set_option maxRecDepth 100000
set_option maxHeartbeats 4000000
namespace RwZ
open PySem PySem.Spec PyProof.Rows L2
@[reducible] def IsZ (h : Heap) (z TI TO : Addr) (f0 : Value) (f1 : Bool) : Prop := h.get? z = some { cls := .type "zip", data := .fields #[f0, .bool f1, .bool false, .ref TI, .ref TO] }
@[reducible] def IsT (h : Heap) (T : Addr) (vs : List Value) : Prop := h.get? T = some { cls := .type "tuple", data := .seq vs.toArray }
abbrev Col := Addr × Addr × Array Value
structure Sep (z TI TO : Addr) (cs : List Col) : Prop where
  nd : (cs.map (·.1)).Nodup
  it : ∀ c ∈ cs, c.1 ≠ z ∧ c.1 ≠ TI ∧ c.1 ≠ TO
  tu : ∀ c ∈ cs, c.2.1 ≠ z ∧ c.2.1 ≠ TO ∧ c.2.1 ∉ cs.map (·.1)
  zt : TI ≠ z ∧ TO ≠ z ∧ TI ≠ TO
def At (i : Nat) (h : Heap) (c : Col) : Prop := h.IsTupleIter c.1 c.2.1 i ∧ h.IsTuple c.2.1 c.2.2
section
variable {prog : Program} {w : World} {A : Around} {E : Value → Shared → Prop} {s : Shared} {z TI TO : Addr} {cs : List Col} {i : Nat}
theorem At.of {h h' : Heap} {c : Col} (x : At i h c) (e1 : h'.get? c.1 = h.get? c.1) (e2 : h'.get? c.2.1 = h.get? c.2.1) : At i h' c := by
  obtain ⟨⟨o, a, b⟩, ⟨o2, a2, b2⟩⟩ := x
  exact ⟨⟨o, by rw [e1]; exact a, b⟩, ⟨o2, by rw [e2]; exact a2, b2⟩⟩
theorem upd_T {T : Addr} {vs : List Value} {x : Value} {k : Nat} {Q : Unit → Shared → Prop} (h : IsT s.heap T vs) (hl : vs.length ≤ 1000) (q : ∀ h', IsT h' T (vs.set k x) → Heap.SameBut T s.heap h' → Q () { s with heap := h' }) :
    wpAny (model prog w) A (updateSeq T fun a => a.setIfInBounds k x) Q E s := by
  have hz : ∀ n, n ≤ 1000 → n ≤ sizeLine := fun n hn => by rw [sizeLine_eq]; omega
  refine wpAny_updateSeq h rfl (q _ ?_ ⟨?_, fun b hb => ?_⟩) (hz _ (by simpa using hl)) (Nat.le_succ_of_le (hz _ (by simpa using hl)))
  · show (s.heap.update T _).get? T = _
    rw [Heap.get?_update_self _ h]
    · simp [Obj.mapSeq]
    · rfl
  · exact Heap.size_update ..
  · exact Heap.get?_update_ne _ _ _ _ hb
theorem alive {a : Addr} {o : Obj} {Q : Option Obj → Shared → Prop} (h : s.heap.get? a = some o) (q : Q (some o) s) : wpAny (model prog w) A (loadIfAlive a) Q E s := by
  unfold loadIfAlive
  simp [wpAny]
  intro _ _
  rw [h]; exact q
theorem dead {a : Addr} {Q : Option Obj → Shared → Prop} (h : s.heap.get? a = none) (q : Q none s) : wpAny (model prog w) A (loadIfAlive a) Q E s := by
  unfold loadIfAlive
  simp [wpAny]
  intro _ _
  rw [h]; exact q
/-- the iterators one by one, into the owned tuple -/
theorem loop1 {f : Value × Nat → Option PySem.Fin × Unit → Sem (ForInStep (Option PySem.Fin × Unit))}
    (step : ∀ (a : Addr) (k : Nat) (s : Shared) (Q : ForInStep (Option PySem.Fin × Unit) → Shared → Prop) (vs : List Value), vs.length ≤ 1000 → wpAny (model prog w) A (Builtin.SmallTypes.nextOf (.ref a)) (fun x s' => IsT s'.heap TO vs ∧ ∀ h', IsT h' TO (vs.set k x) → Heap.SameBut TO s'.heap h' → Q (.yield (none, ())) { s' with heap := h' }) (fun e s' => wpAny (model prog w) A (setField (.ref z) 0 .none) (fun _ s'' => E e s'') E s') s → wpAny (model prog w) A (f (.ref a, k) (none, ())) Q E s)
    (S : Sep z TI TO cs) : ∀ (rest pre : List Col) (s : Shared) (os xs : List Value) (Q : Option PySem.Fin × Unit → Shared → Prop), cs = pre ++ rest → IsT s.heap TO (xs ++ os) → xs.length = pre.length → os.length = rest.length → cs.length ≤ 1000 → (∀ c ∈ pre, At (i + 1) s.heap c) → (∀ c ∈ rest, At i s.heap c) → (∀ c ∈ rest, i < c.2.2.size) →
      (∀ h' ys, IsT h' TO (xs ++ ys) → ys.length = rest.length → (∀ (k : Nat) (c : Col) (y : Value), rest[k]? = some c → ys[k]? = some y → c.2.2[i]? = some y) → (∀ c ∈ cs, At (i + 1) h' c) → h'.objs.size = s.heap.objs.size → (∀ b, b ≠ TO → b ∉ rest.map (·.1) → h'.get? b = s.heap.get? b) → Q (none, ()) { s with heap := h' }) →
      wpAny (model prog w) A (forIn ((rest.map fun c => Value.ref c.1).zipIdx pre.length) (none, ()) f) Q E s := by
  intro rest
  induction rest with
  | nil =>
    intro pre s os xs Q hcs hT hl ho h1000 h1 h2 hlt q
    have e : os = [] := by simpa using ho
    subst e
    simp only [List.map_nil, List.zipIdx_nil, List.forIn_nil]
    refine wpAny_pure (q s.heap [] hT rfl (fun k c y h => by simp at h) (fun c hc => h1 c (by rw [hcs, List.append_nil] at hc; exact hc)) rfl fun b _ _ => rfl)
  | cons c rest ih =>
    intro pre s os xs Q hcs hT hl ho h1000 h1 h2 hlt q
    obtain ⟨o0, os, rfl⟩ : ∃ o0 os', os = o0 :: os' := by cases os with | nil => simp at ho | cons a b => exact ⟨a, b, rfl⟩
    simp only [List.map_cons, List.zipIdx_cons, List.forIn_cons]
    have hc := h2 c List.mem_cons_self
    have hil := hlt c List.mem_cons_self
    have hmem : c ∈ cs := by rw [hcs]; simp
    obtain ⟨x, hx⟩ : ∃ x, c.2.2[i]? = some x := ⟨_, Array.getElem?_eq_getElem hil⟩
    refine wpAny_bind (step _ _ _ _ (xs ++ o0 :: os) (by rw [hcs] at h1000; simp at h1000 ho ⊢; omega) (wpAny_nextOf_tuple_item hc.1 hc.2 hx fun h1' hit sb => ?_))
    have nT : c.1 ≠ TO := (S.it c hmem).2.2
    refine ⟨by show h1'.get? TO = _; rw [sb.2 TO (Ne.symm nT)]; exact hT, fun h2' hT2 sb2 => ?_⟩
    have eT : (xs ++ o0 :: os).set pre.length x = (xs ++ [x]) ++ os := by rw [← hl]; simp
    rw [eT] at hT2
    have nd : ∀ d ∈ pre ++ rest, d.1 ≠ c.1 := fun d hd => by
      have := S.nd
      rw [hcs, List.map_append, List.map_cons] at this
      obtain ⟨_, n2, n3⟩ := List.nodup_append.mp this
      rcases List.mem_append.mp hd with h | h
      · exact fun e => n3 _ (List.mem_map.mpr ⟨d, h, rfl⟩) _ List.mem_cons_self e
      · exact fun e => (List.nodup_cons.mp n2).1 (by rw [← e]; exact List.mem_map.mpr ⟨d, h, rfl⟩)
    have keep : ∀ d ∈ cs, h2'.get? d.2.1 = s.heap.get? d.2.1 := fun d hd => by
      have hd2 := S.tu d hd
      rw [sb2.2 _ hd2.2.1, sb.2 _ fun e => hd2.2.2 (by rw [e]; exact List.mem_map.mpr ⟨c, hmem, rfl⟩)]
    have keepi : ∀ d ∈ pre ++ rest, h2'.get? d.1 = s.heap.get? d.1 := fun d hd => by
      have hd2 : d ∈ cs := by rw [hcs]; rcases List.mem_append.mp hd with h | h <;> simp [h]
      rw [sb2.2 _ (S.it d hd2).2.2, sb.2 _ (nd d hd)]
    have hcs' : cs = (pre ++ [c]) ++ rest := by rw [hcs]; simp
    have el : pre.length + 1 = (pre ++ [c]).length := by simp
    rw [el]
    refine ih (pre ++ [c]) { s with heap := h2' } os (xs ++ [x]) Q hcs' hT2 (by simp [hl]) (by simpa using ho) h1000 (fun d hd => ?_) (fun d hd => ?_) (fun d hd => hlt d (List.mem_cons_of_mem _ hd)) fun h3 ys a1 a2 a3 a4 a5 a6 => ?_
    · rcases List.mem_append.mp hd with h | h
      · exact (h1 d h).of (keepi d (List.mem_append.mpr (.inl h))) (keep d (by rw [hcs]; simp [h]))
      · rw [List.mem_singleton.mp h]
        refine ⟨?_, ?_⟩
        · obtain ⟨o, e1, e2⟩ := hit
          exact ⟨o, by rw [sb2.2 _ nT]; exact e1, e2⟩
        · obtain ⟨o, e1, e2⟩ := hc.2
          exact ⟨o, by rw [keep c hmem]; exact e1, e2⟩
    · exact (h2 d (List.mem_cons_of_mem _ hd)).of (keepi d (List.mem_append.mpr (.inr hd))) (keep d (by rw [hcs]; simp [hd]))
    · refine q h3 (x :: ys) (by rw [List.append_assoc] at a1; exact a1) (by simp [a2]) (fun k d y e1 e2 => ?_) a4 ?_ (fun b hb1 hb2 => ?_)
      · cases k with
        | zero => simp at e1 e2; subst e1 e2; exact hx
        | succ k => exact a3 k d y (by simpa using e1) (by simpa using e2)
      · rw [a5]; show h2'.objs.size = _; rw [sb2.1, sb.1]
      · have hb3 : b ∉ rest.map (·.1) := fun h => hb2 (by rw [List.map_cons]; exact List.mem_cons_of_mem _ h)
        rw [a6 b hb1 hb3]
        show h2'.get? b = _
        rw [sb2.2 _ hb1, sb.2 _ fun e => hb2 (by rw [e]; simp)]
/-- the iterators one by one, into a new list -/
theorem loop2 {f : Value → Option PySem.Fin × Array Value → Sem (ForInStep (Option PySem.Fin × Array Value))}
    (step : ∀ (a : Addr) (acc : Array Value) (s : Shared) (Q : ForInStep (Option PySem.Fin × Array Value) → Shared → Prop), wpAny (model prog w) A (Builtin.SmallTypes.nextOf (.ref a)) (fun x s' => Q (.yield (none, acc.push x)) s') E s → wpAny (model prog w) A (f (.ref a) (none, acc)) Q E s)
    (S : Sep z TI TO cs) : ∀ (rest pre : List Col) (s : Shared) (acc : Array Value) (Q : Option PySem.Fin × Array Value → Shared → Prop), cs = pre ++ rest → (∀ c ∈ pre, At (i + 1) s.heap c) → (∀ c ∈ rest, At i s.heap c) → (∀ c ∈ rest, i < c.2.2.size) →
      (∀ h' (ys : List Value), ys.length = rest.length → (∀ (k : Nat) (c : Col) (y : Value), rest[k]? = some c → ys[k]? = some y → c.2.2[i]? = some y) → (∀ c ∈ cs, At (i + 1) h' c) → h'.objs.size = s.heap.objs.size → (∀ b, b ∉ rest.map (·.1) → h'.get? b = s.heap.get? b) → Q (none, acc ++ ys.toArray) { s with heap := h' }) →
      wpAny (model prog w) A (forIn (rest.map fun c => Value.ref c.1) (none, acc) f) Q E s := by
  intro rest
  induction rest with
  | nil =>
    intro pre s acc Q hcs h1 h2 hlt q
    simp only [List.map_nil, List.forIn_nil]
    have := q s.heap [] rfl (fun k c y h => by simp at h) (fun c hc => h1 c (by rw [hcs, List.append_nil] at hc; exact hc)) rfl fun b _ => rfl
    refine wpAny_pure ?_
    simpa using this
  | cons c rest ih =>
    intro pre s acc Q hcs h1 h2 hlt q
    simp only [List.map_cons, List.forIn_cons]
    have hc := h2 c List.mem_cons_self
    have hil := hlt c List.mem_cons_self
    have hmem : c ∈ cs := by rw [hcs]; simp
    obtain ⟨x, hx⟩ : ∃ x, c.2.2[i]? = some x := ⟨_, Array.getElem?_eq_getElem hil⟩
    refine wpAny_bind (step _ _ _ _ (wpAny_nextOf_tuple_item hc.1 hc.2 hx fun h1' hit sb => ?_))
    have nd : ∀ d ∈ pre ++ rest, d.1 ≠ c.1 := fun d hd => by
      have := S.nd
      rw [hcs, List.map_append, List.map_cons] at this
      obtain ⟨_, n2, n3⟩ := List.nodup_append.mp this
      rcases List.mem_append.mp hd with h | h
      · exact fun e => n3 _ (List.mem_map.mpr ⟨d, h, rfl⟩) _ List.mem_cons_self e
      · exact fun e => (List.nodup_cons.mp n2).1 (by rw [← e]; exact List.mem_map.mpr ⟨d, h, rfl⟩)
    have keep : ∀ d ∈ cs, h1'.get? d.2.1 = s.heap.get? d.2.1 := fun d hd => by
      have hd2 := S.tu d hd
      rw [sb.2 _ fun e => hd2.2.2 (by rw [e]; exact List.mem_map.mpr ⟨c, hmem, rfl⟩)]
    have keepi : ∀ d ∈ pre ++ rest, h1'.get? d.1 = s.heap.get? d.1 := fun d hd => by
      rw [sb.2 _ (nd d hd)]
    have hcs' : cs = (pre ++ [c]) ++ rest := by rw [hcs]; simp
    refine ih (pre ++ [c]) { s with heap := h1' } (acc.push x) Q hcs' (fun d hd => ?_) (fun d hd => ?_) (fun d hd => hlt d (List.mem_cons_of_mem _ hd)) fun h3 ys a2 a3 a4 a5 a6 => ?_
    · rcases List.mem_append.mp hd with h | h
      · exact (h1 d h).of (keepi d (List.mem_append.mpr (.inl h))) (keep d (by rw [hcs]; simp [h]))
      · rw [List.mem_singleton.mp h]
        refine ⟨hit, ?_⟩
        obtain ⟨o, e1, e2⟩ := hc.2
        exact ⟨o, by rw [keep c hmem]; exact e1, e2⟩
    · exact (h2 d (List.mem_cons_of_mem _ hd)).of (keepi d (List.mem_append.mpr (.inr hd))) (keep d (by rw [hcs]; simp [hd]))
    · have := q h3 (x :: ys) (by simp [a2]) (fun k d y e1 e2 => ?_) a4 ?_ (fun b hb2 => ?_)
      · simpa using this
      · cases k with
        | zero => simp at e1 e2; subst e1 e2; exact hx
        | succ k => exact a3 k d y (by simpa using e1) (by simpa using e2)
      · rw [a5]; exact sb.1
      · have hb3 : b ∉ rest.map (·.1) := fun h => hb2 (by rw [List.map_cons]; exact List.mem_cons_of_mem _ h)
        rw [a6 b hb3]
        exact sb.2 _ fun e => hb2 (by rw [e]; simp)
def f0ok (h : Heap) (f0 : Value) : Prop := f0 = .none ∨ ∃ (a : Nat) (o : Obj), f0 = rawInt a ∧ h.get? a = some o
structure ZSt (z TI TO : Addr) (cs : List Col) (i : Nat) (h : Heap) : Prop where
  z : ∃ f0 f1, IsZ h z TI TO f0 f1 ∧ (f0 = .none ∨ ∃ a : Nat, f0 = rawInt a)
  ti : IsT h TI (cs.map fun c => .ref c.1)
  to : ∃ os, IsT h TO os ∧ os.length = cs.length
  at_ : ∀ c ∈ cs, At i h c
/-- a turn of zip(*..): a new tuple with one of each -/
theorem zn_item {Q : Value → Shared → Prop} (S : Sep z TI TO cs) (hne : cs ≠ []) (h1000 : cs.length ≤ 1000) (st : ZSt z TI TO cs i s.heap) (hlt : ∀ c ∈ cs, i < c.2.2.size)
    (q : ∀ h' (ys : List Value), IsT h' s.heap.objs.size ys → ys.length = cs.length → (∀ (k : Nat) (c : Col) (y : Value), cs[k]? = some c → ys[k]? = some y → c.2.2[i]? = some y) → ZSt z TI TO cs (i + 1) h' → h'.objs.size = s.heap.objs.size + 1 → (∀ b o, b ≠ z → b ≠ TO → b ∉ cs.map (·.1) → s.heap.get? b = some o → h'.get? b = some o) → Q (.ref s.heap.objs.size) { s with heap := h' }) :
    wpAny (model prog w) A (Builtin.«zip.__next__» { pos := [.ref z] }) (fun fin s' => ∃ v, fin = .done (.ret v) ∧ Q v s') E s := by
  obtain ⟨⟨f0, f1, hz, hf⟩, hTI, ⟨os, hTO, hol⟩, hat⟩ := st
  have hzl := Heap.lt_size hz
  unfold Builtin.«zip.__next__»
  simp only [slotArgs]
  refine wpAny_bind (wpAny_pure ?_)
  refine wpAny_bind (wpAny_field hz rfl rfl ?_)
  refine wpAny_bind (wpAny_field hz rfl rfl ?_)
  refine wpAny_bind (wpAny_seqItems hTI rfl ?_)
  dsimp only
  have he : ((cs.map fun c => Value.ref c.1).toArray).isEmpty = false := by cases cs with | nil => exact absurd rfl hne | cons a r => rfl
  rw [he]
  simp only [Bool.false_eq_true, if_false]
  unfold Builtin.SmallTypes.ownedTupleIsFree
  refine wpAny_bind (wpAny_bind (wpAny_field hz rfl rfl ?_))
  by_cases hfree : f0 = .none ∨ ∃ a : Nat, f0 = rawInt a ∧ s.heap.get? a = none
  · have tr : ∀ {Q' : Bool → Shared → Prop}, Q' true s → wpAny (model prog w) A (match #[f0, Value.bool f1, Value.bool false, Value.ref TI, Value.ref TO][0] with
        | Value.none => pure true
        | Value.int a tok => do
          let __do_lift ← loadIfAlive a.toNat
          if __do_lift.isNone = true then pure true
            else do
              let __do_lift ← field (Value.ref z) 1
              have __do_jp : Unit → Sem Bool := fun __r => pure false
              if (__do_lift != Value.bool true) = true then do
                  let __r ← setField (Value.ref z) 1 (Value.bool true)
                  __do_jp __r
                else __do_jp ()
        | x => pure false) Q' E s := fun {Q'} q' => by
      rcases hfree with rfl | ⟨a, rfl, ha⟩
      · exact wpAny_pure q'
      · refine wpAny_bind (dead ha ?_)
        exact wpAny_pure q'
    refine tr ?_
    simp only [if_true]
    refine wpAny_bind (wpAny_rule ?_)
    refine wpAny_bind (wpAny_field hz rfl rfl ?_)
    refine wpAny_bind (wpAny_setField_rec hz (by simp) fun h1 hz1 sb1 => ?_)
    have hat1 : ∀ c ∈ cs, At i h1 c := fun c hc => (hat c hc).of (sb1.2 _ (S.it c hc).1) (sb1.2 _ (S.tu c hc).1)
    refine wpAny_bind (loop1 (z := z) (TI := TI) (TO := TO) (cs := cs) (i := i) (fun a k s' Q' vs hvl hw => ?_) S cs [] { s with heap := h1 } os [] _ rfl (by show h1.get? TO = _; rw [sb1.2 _ S.zt.2.1]; exact hTO) rfl hol h1000 (fun c hc => by simp at hc) hat1 hlt fun h2 ys a1 a2 a3 a4 a5 a6 => ?_)
    · have e0 : (#[f0, Value.bool f1, Value.bool false, Value.ref TI, Value.ref TO][2] == Value.bool true) = false := by rfl
      rw [e0]
      try simp only [Bool.false_eq_true, if_false]
      refine wpAny_bind (wpAny_onRaise (wpAny_bind (wpAny_mono hw (fun x s'' hx => wpAny_pure ?_) fun e s'' he => he)))
      refine wpAny_bind (wpAny_seqItems hx.1 rfl ?_)
      refine wpAny_bind (upd_T hx.1 hvl fun h' hT' sb' => ?_)
      refine wpAny_bind (wpAny_letGo ?_)
      exact wpAny_pure (hx.2 h' hT' sb')
    · have hz2 : IsZ h2 z TI TO .ellipsis f1 := by
        show h2.get? z = _
        rw [a6 z (Ne.symm S.zt.2.1) (fun h => by obtain ⟨c, hc, e⟩ := List.mem_map.mp h; exact (S.it c hc).1 e)]
        exact hz1
      rw [List.nil_append] at a1
      refine wpAny_bind (wpAny_seqItems a1 rfl ?_)
      have hz1000 : ys.toArray.toList.length ≤ sizeLine := by
        rw [sizeLine_eq]; simp; omega
      refine wpAny_bind (wpAny_newTuple ?_ hz1000)
      have hs2 : h2.objs.size = s.heap.objs.size := by rw [a5]; exact sb1.1
      have fin : ∀ h3, h3.get? z = some { cls := .type "zip", data := .fields #[rawInt s.heap.objs.size, .bool false, .bool false, .ref TI, .ref TO] } → h3.get? s.heap.objs.size = some { cls := .type "tuple", data := .seq ys.toArray } → h3.objs.size = s.heap.objs.size + 1 → (∀ b o, b ≠ z → h2.get? b = some o → h3.get? b = some o) → Q (.ref s.heap.objs.size) { s with heap := h3 } := fun h3 g1 g2 g3 g4 => by
        refine q h3 ys g2 a2 a3 ⟨⟨_, _, g1, .inr ⟨_, rfl⟩⟩, ?_, ⟨ys, g4 TO _ S.zt.2.1 a1, a2⟩, fun c hc => ?_⟩ g3 fun b o hb1 hb2 hb3 hb => g4 b o hb1 ?_
        · refine g4 TI _ S.zt.1 ?_
          rw [a6 TI S.zt.2.2 (fun h => by obtain ⟨c, hc, e⟩ := List.mem_map.mp h; exact (S.it c hc).2.1 e)]
          show h1.get? TI = _
          rw [sb1.2 _ S.zt.1]; exact hTI
        · obtain ⟨⟨o1, e1, e2⟩, ⟨o2, e3, e4⟩⟩ := a4 c hc
          exact ⟨⟨o1, g4 _ _ (S.it c hc).1 e1, e2⟩, ⟨o2, g4 _ _ (S.tu c hc).1 e3, e4⟩⟩
        · rw [a6 b hb2 hb3]
          show h1.get? b = _
          rw [sb1.2 _ hb1]; exact hb
      unfold Builtin.SmallTypes.ownedTupleHandOut
      have hzp : (h2.push { cls := Value.type "tuple", data := Data.seq ys.toArray }).get? z = some { cls := .type "zip", data := .fields #[.ellipsis, .bool f1, .bool false, .ref TI, .ref TO] } := Heap.get?_push_of_some _ hz2
      refine wpAny_bind (wpAny_bind (wpAny_setField_rec hzp (by simp) fun h3 hz3 sb3 => ?_))
      refine wpAny_setField_rec hz3 (by simp) fun h4 hz4 sb4 => ?_
      refine wpAny_pure ⟨_, rfl, ?_⟩
      show Q (Value.ref h2.objs.size) _
      rw [hs2]
      refine fin h4 (by rw [hz4]; show some ({ cls := Value.type "zip", data := Data.fields #[rawInt h2.objs.size, .bool false, .bool false, .ref TI, .ref TO] } : Obj) = _; rw [hs2]) ?_ ?_ fun b o hb hg => ?_
      · rw [sb4.2 _ (Nat.ne_of_gt hzl), sb3.2 _ (Nat.ne_of_gt hzl), ← hs2]
        exact Heap.get?_push_size _ rfl
      · rw [sb4.1, sb3.1]; show (h2.push _).objs.size = _; rw [Heap.size_push, hs2]
      · rw [sb4.2 _ hb, sb3.2 _ hb]
        exact Heap.get?_push_of_some _ hg
  obtain ⟨a, o, hf0, ha⟩ : ∃ (a : Nat) (o : Obj), f0 = rawInt a ∧ s.heap.get? a = some o := by
    rcases hf with h | ⟨a, h⟩
    · exact absurd (.inl h) hfree
    · cases e : s.heap.get? a with
      | none => exact absurd (.inr ⟨a, h, e⟩) hfree
      | some o => exact ⟨a, o, h, e⟩
  · subst hf0
    refine wpAny_bind (alive ha ?_)
    simp only [Option.isNone, Bool.false_eq_true, if_false]
    refine wpAny_bind (wpAny_field hz rfl rfl ?_)
    have e0 : (#[rawInt ↑a, Value.bool f1, Value.bool false, Value.ref TI, Value.ref TO][2] == Value.bool true) = false := by rfl
    rw [e0]
    have go : ∀ h1, IsZ h1 z TI TO (rawInt a) true → Heap.SameBut z s.heap h1 → ∀ (h2 : Heap) (ys : List Value), ys.length = cs.length → (∀ (k : Nat) (c : Col) (y : Value), cs[k]? = some c → ys[k]? = some y → c.2.2[i]? = some y) → (∀ c ∈ cs, At (i + 1) h2 c) → h2.objs.size = h1.objs.size → (∀ b, b ∉ cs.map (·.1) → h2.get? b = h1.get? b) → Q (.ref h2.objs.size) { s with heap := h2.push { cls := .type "tuple", data := .seq ys.toArray } } := fun h1 hz1 sb1 h2 ys a2 a3 a4 a5 a6 => by
      have hs2 : h2.objs.size = s.heap.objs.size := by rw [a5]; exact sb1.1
      rw [hs2]
      have up : ∀ {b o}, h2.get? b = some o → (h2.push { cls := .type "tuple", data := .seq ys.toArray }).get? b = some o := fun e => Heap.get?_push_of_some _ e
      have nz : z ∉ cs.map (·.1) := fun h => by obtain ⟨c, hc, e⟩ := List.mem_map.mp h; exact (S.it c hc).1 e
      refine q _ ys (by rw [← hs2]; exact Heap.get?_push_size _ rfl) a2 a3 ⟨⟨_, _, up (by rw [a6 z nz]; exact hz1), .inr ⟨_, rfl⟩⟩, up ?_, ⟨os, up ?_, hol⟩, fun c hc => ?_⟩ (by rw [Heap.size_push, hs2]) fun b o hb1 hb2 hb3 hb => up ?_
      · rw [a6 TI (fun h => by obtain ⟨c, hc, e⟩ := List.mem_map.mp h; exact (S.it c hc).2.1 e), sb1.2 _ S.zt.1]; exact hTI
      · rw [a6 TO (fun h => by obtain ⟨c, hc, e⟩ := List.mem_map.mp h; exact (S.it c hc).2.2 e), sb1.2 _ S.zt.2.1]; exact hTO
      · obtain ⟨⟨o1, e1, e2⟩, ⟨o2, e3, e4⟩⟩ := a4 c hc
        exact ⟨⟨o1, up e1, e2⟩, ⟨o2, up e3, e4⟩⟩
      · rw [a6 b hb3, sb1.2 _ hb1]; exact hb
    have hz1000 : ∀ ys : List Value, ys.length = cs.length → (#[] ++ ys.toArray).toList.length ≤ sizeLine := fun ys h => by
      rw [sizeLine_eq]; simp; omega
    have hat1 : ∀ h1, Heap.SameBut z s.heap h1 → ∀ c ∈ cs, At i h1 c := fun h1 sb1 c hc => (hat c hc).of (sb1.2 _ (S.it c hc).1) (sb1.2 _ (S.tu c hc).1)
    have same : Heap.SameBut z s.heap s.heap := ⟨rfl, fun _ _ => rfl⟩
    cases f1 with
    | false =>
      refine wpAny_ite_true (by rfl) (wpAny_bind (wpAny_setField_rec hz (by simp) fun h1 hz1 sb1 => ?_))
      refine wpAny_pure ?_
      simp only [Bool.false_eq_true, if_false]
      try simp only [Bool.false_eq_true, if_false, List.forIn_toArray]
      refine wpAny_bind (loop2 (z := z) (TI := TI) (TO := TO) (cs := cs) (i := i) (fun b acc s' Q' hw => ?_) S cs [] { s with heap := h1 } #[] _ rfl (fun c hc => by simp at hc) (hat1 h1 sb1) hlt fun h2 ys a2 a3 a4 a5 a6 => ?_)
      · refine wpAny_bind (wpAny_holding (wpAny_bind (wpAny_mono hw (fun x s'' hx => wpAny_pure ?_) fun e s'' he => he)))
        exact wpAny_pure hx
      · refine wpAny_bind (wpAny_newTuple ?_ (hz1000 ys a2))
        refine wpAny_pure ⟨_, rfl, ?_⟩
        have := go h1 hz1 sb1 h2 ys a2 a3 a4 a5 a6
        simpa using this
    | true =>
      refine wpAny_ite_false (by rfl) ?_
      refine wpAny_pure ?_
      simp only [Bool.false_eq_true, if_false]
      try simp only [Bool.false_eq_true, if_false, List.forIn_toArray]
      refine wpAny_bind (loop2 (z := z) (TI := TI) (TO := TO) (cs := cs) (i := i) (fun b acc s' Q' hw => ?_) S cs [] s #[] _ rfl (fun c hc => by simp at hc) (hat1 _ same) hlt fun h2 ys a2 a3 a4 a5 a6 => ?_)
      · refine wpAny_bind (wpAny_holding (wpAny_bind (wpAny_mono hw (fun x s'' hx => wpAny_pure ?_) fun e s'' he => he)))
        exact wpAny_pure hx
      · refine wpAny_bind (wpAny_newTuple ?_ (hz1000 ys a2))
        refine wpAny_pure ⟨_, rfl, ?_⟩
        have := go s.heap hz same h2 ys a2 a3 a4 a5 a6
        simpa using this
/-- the first iterator is at its end -/
theorem zn_end {Q : PySem.Fin → Shared → Prop} (hh : A.handled = none) (S : Sep z TI TO cs) (hne : cs ≠ []) (st : ZSt z TI TO cs i s.heap) (hend : ∀ c ∈ cs, c.2.2.size = i)
    (q : ∀ h' e, (∀ b o, b ≠ z → b ∉ cs.map (·.1) → s.heap.get? b = some o → h'.get? b = some o) → (∃ o, h'.get? e = some o ∧ o.cls = .type "StopIteration") → E (.ref e) { s with heap := h' }) :
    wpAny (model prog w) A (Builtin.«zip.__next__» { pos := [.ref z] }) Q E s := by
  obtain ⟨⟨f0, f1, hz, hf⟩, hTI, ⟨os, hTO, hol⟩, hat⟩ := st
  have hzl := Heap.lt_size hz
  obtain ⟨c, cs', hcs⟩ : ∃ c cs', cs = c :: cs' := by cases cs with | nil => exact absurd rfl hne | cons a r => exact ⟨a, r, rfl⟩
  have hmem : c ∈ cs := by rw [hcs]; simp
  have hc := hat c hmem
  have hno : c.2.2[i]? = none := by
    rw [← hend c hmem]; exact Array.getElem?_size
  unfold Builtin.«zip.__next__»
  simp only [slotArgs]
  refine wpAny_bind (wpAny_pure ?_)
  refine wpAny_bind (wpAny_field hz rfl rfl ?_)
  refine wpAny_bind (wpAny_field hz rfl rfl ?_)
  refine wpAny_bind (wpAny_seqItems hTI rfl ?_)
  dsimp only
  have he : ((cs.map fun c => Value.ref c.1).toArray).isEmpty = false := by rw [hcs]; rfl
  rw [he]
  simp only [Bool.false_eq_true, if_false]
  unfold Builtin.SmallTypes.ownedTupleIsFree
  refine wpAny_bind (wpAny_bind (wpAny_field hz rfl rfl ?_))
  have hcz := (S.it c hmem).1
  have huz := (S.tu c hmem).1
  have huc : c.2.1 ≠ c.1 := fun e => (S.tu c hmem).2.2 (by rw [e]; exact List.mem_map.mpr ⟨c, hmem, rfl⟩)
  by_cases hfree : f0 = .none ∨ ∃ a : Nat, f0 = rawInt a ∧ s.heap.get? a = none
  · have tr : ∀ {Q' : Bool → Shared → Prop}, Q' true s → wpAny (model prog w) A (match #[f0, Value.bool f1, Value.bool false, Value.ref TI, Value.ref TO][0] with
        | Value.none => pure true
        | Value.int a tok => do
          let __do_lift ← loadIfAlive a.toNat
          if __do_lift.isNone = true then pure true
            else do
              let __do_lift ← field (Value.ref z) 1
              have __do_jp : Unit → Sem Bool := fun __r => pure false
              if (__do_lift != Value.bool true) = true then do
                  let __r ← setField (Value.ref z) 1 (Value.bool true)
                  __do_jp __r
                else __do_jp ()
        | x => pure false) Q' E s := fun {Q'} q' => by
      rcases hfree with rfl | ⟨a, rfl, ha⟩
      · exact wpAny_pure q'
      · refine wpAny_bind (dead ha ?_)
        exact wpAny_pure q'
    refine tr ?_
    simp only [if_true]
    refine wpAny_bind (wpAny_rule ?_)
    refine wpAny_bind (wpAny_field hz rfl rfl ?_)
    refine wpAny_bind (wpAny_setField_rec hz (by simp) fun h1 hz1 sb1 => ?_)
    have e0 : (#[f0, Value.bool f1, Value.bool false, Value.ref TI, Value.ref TO][2] == Value.bool true) = false := by rfl
    rw [e0]
    try simp only [Bool.false_eq_true, if_false]
    rw [hcs]
    simp only [List.map_cons, List.zipIdx_cons, List.forIn_cons]
    have hc1 : At i h1 c := hc.of (sb1.2 _ hcz) (sb1.2 _ huz)
    refine wpAny_bind (wpAny_bind (wpAny_bind (wpAny_onRaise (wpAny_bind (wpAny_nextOf_tuple_end hh hc1.1 hc1.2 hno fun h2 e xb he => ?_)))))
    have hz2 := xb z _ (Ne.symm hcz) hz1
    refine wpAny_setField_rec hz2 (by simp) fun h3 hz3 sb3 => ?_
    refine q h3 e (fun b o hb1 hb2 hb => ?_) ?_
    · rw [sb3.2 _ hb1]
      refine xb b o (fun e => hb2 (by rw [e]; exact List.mem_map.mpr ⟨c, hmem, rfl⟩)) ?_
      rw [sb1.2 _ hb1]; exact hb
    · obtain ⟨o, e1, e2⟩ := he
      by_cases hez : e = z
      · subst hez
        rw [hz2] at e1
        cases e1
        simp at e2
      · exact ⟨o, by rw [sb3.2 _ hez]; exact e1, e2⟩
  obtain ⟨a, o, hf0, ha⟩ : ∃ (a : Nat) (o : Obj), f0 = rawInt a ∧ s.heap.get? a = some o := by
    rcases hf with h | ⟨a, h⟩
    · exact absurd (.inl h) hfree
    · cases e : s.heap.get? a with
      | none => exact absurd (.inr ⟨a, h, e⟩) hfree
      | some o => exact ⟨a, o, h, e⟩
  · subst hf0
    refine wpAny_bind (alive ha ?_)
    simp only [Option.isNone, Bool.false_eq_true, if_false]
    refine wpAny_bind (wpAny_field hz rfl rfl ?_)
    have e0 : (#[rawInt ↑a, Value.bool f1, Value.bool false, Value.ref TI, Value.ref TO][2] == Value.bool true) = false := by rfl
    rw [e0]
    try simp only [Bool.false_eq_true, if_false, List.forIn_toArray]
    rw [hcs]
    simp only [List.map_cons, List.forIn_cons]
    have go : ∀ h1, Heap.SameBut z s.heap h1 → ∀ {Q2 : Value → Shared → Prop}, wpAny (model prog w) A (Builtin.SmallTypes.nextOf (.ref c.1)) Q2 E { s with heap := h1 } := fun h1 sb1 Q2 => by
      have hc1 : At i h1 c := hc.of (sb1.2 _ hcz) (sb1.2 _ huz)
      refine wpAny_nextOf_tuple_end hh hc1.1 hc1.2 hno fun h2 e xb he => ?_
      refine q h2 e (fun b o hb1 hb2 hb => ?_) he
      refine xb b o (fun e => hb2 (by rw [e]; exact List.mem_map.mpr ⟨c, hmem, rfl⟩)) ?_
      rw [sb1.2 _ hb1]; exact hb
    cases f1 with
    | false =>
      refine wpAny_ite_true (by rfl) (wpAny_bind (wpAny_setField_rec hz (by simp) fun h1 hz1 sb1 => ?_))
      refine wpAny_pure ?_
      simp only [Bool.false_eq_true, if_false]
      exact wpAny_bind (wpAny_bind (wpAny_bind (wpAny_holding (wpAny_bind (go h1 sb1)))))
    | true =>
      refine wpAny_ite_false (by rfl) ?_
      refine wpAny_pure ?_
      simp only [Bool.false_eq_true, if_false]
      exact wpAny_bind (wpAny_bind (wpAny_bind (wpAny_holding (wpAny_bind (go s.heap ⟨rfl, fun _ _ => rfl⟩)))))
/-! ### zip(*rows), made -/
theorem tc_zip (args : List Value) : checkTypeCall "zip" { pos := args } = pure () := rfl
theorem nc_zip : ∀ (args : List Value), args.length ≤ 12 → checkBuiltinCall "zip.__new__" { pos := Value.type "zip" :: args } = pure ()
  | [], _ => by with_unfolding_all rfl
  | [_], _ => by with_unfolding_all rfl
  | [_, _], _ => by with_unfolding_all rfl
  | [_, _, _], _ => by with_unfolding_all rfl
  | [_, _, _, _], _ => by with_unfolding_all rfl
  | [_, _, _, _, _], _ => by with_unfolding_all rfl
  | [_, _, _, _, _, _], _ => by with_unfolding_all rfl
  | [_, _, _, _, _, _, _], _ => by with_unfolding_all rfl
  | [_, _, _, _, _, _, _, _], _ => by with_unfolding_all rfl
  | [_, _, _, _, _, _, _, _, _], _ => by with_unfolding_all rfl
  | [_, _, _, _, _, _, _, _, _, _], _ => by with_unfolding_all rfl
  | [_, _, _, _, _, _, _, _, _, _, _], _ => by with_unfolding_all rfl
  | [_, _, _, _, _, _, _, _, _, _, _, _], _ => by with_unfolding_all rfl
  | _ :: _ :: _ :: _ :: _ :: _ :: _ :: _ :: _ :: _ :: _ :: _ :: _ :: _, h => by simp at h
theorem oi_any (obj : Value) (args : List Value) : argsOk "object.__init__" { pos := obj :: args } := rfl
/-- the iterators of the columns -/
def colsOf (n0 : Nat) : List (Addr × Array Value) → List Col
  | [] => []
  | t :: ts => (n0, t.1, t.2) :: colsOf (n0 + 1) ts
theorem colsOf_len : ∀ (ts : List (Addr × Array Value)) (n0 : Nat), (colsOf n0 ts).length = ts.length
  | [], _ => rfl
  | t :: ts, n0 => by rw [colsOf, List.length_cons, List.length_cons, colsOf_len ts]
theorem colsOf_mem : ∀ {ts : List (Addr × Array Value)} {n0 : Nat} {c : Col}, c ∈ colsOf n0 ts → n0 ≤ c.1 ∧ c.1 < n0 + ts.length ∧ (c.2.1, c.2.2) ∈ ts
  | [], _, _, h => by simp [colsOf] at h
  | t :: ts, n0, c, h => by
    rw [colsOf] at h
    rcases List.mem_cons.mp h with rfl | h
    · exact ⟨Nat.le_refl _, by simp, List.mem_cons_self⟩
    · obtain ⟨h1, h2, h3⟩ := colsOf_mem h
      exact ⟨Nat.le_of_succ_le h1, Nat.lt_of_lt_of_eq h2 (by rw [List.length_cons]; omega), List.mem_cons_of_mem _ h3⟩
theorem colsOf_nd : ∀ (ts : List (Addr × Array Value)) (n0 : Nat), ((colsOf n0 ts).map (·.1)).Nodup
  | [], _ => by simp [colsOf]
  | t :: ts, n0 => by
    rw [colsOf, List.map_cons]
    refine List.nodup_cons.mpr ⟨fun h => ?_, colsOf_nd ts (n0 + 1)⟩
    obtain ⟨c, hc, e⟩ := List.mem_map.mp h
    have := (colsOf_mem hc).1
    have e : c.1 = n0 := e
    rw [e] at this
    exact absurd this (Nat.not_succ_le_self _)
theorem colsOf_snd : ∀ (ts : List (Addr × Array Value)) (n0 : Nat), (colsOf n0 ts).map (·.2.1) = ts.map (·.1)
  | [], _ => rfl
  | t :: ts, n0 => by rw [colsOf, List.map_cons, List.map_cons, colsOf_snd ts]
/-- an iterator for each of the tuples -/
theorem iter_all : ∀ (ts : List (Addr × Array Value)) (s : Shared) (acc : Array Value) (Q : Array Value → Shared → Prop), (∀ t ∈ ts, s.heap.IsTuple t.1 t.2) →
    (∀ h', (∀ c ∈ colsOf s.heap.objs.size ts, At 0 h' c) → h'.objs.size = s.heap.objs.size + ts.length → (∀ b o, s.heap.get? b = some o → h'.get? b = some o) → Q (acc ++ ((colsOf s.heap.objs.size ts).map fun c => Value.ref c.1).toArray) { s with heap := h' }) →
    wpAny (model prog w) A (forIn (ts.map fun t => Value.ref t.1) acc fun x its => do
        let d ← holding its.toList (pyIter x)
        pure (ForInStep.yield (its.push d))) Q E s
  | [], s, acc, Q, _, q => by
    simp only [List.map_nil, List.forIn_nil]
    refine wpAny_pure ?_
    have := q s.heap (fun c hc => by simp [colsOf] at hc) rfl fun _ _ h => h
    simpa [colsOf] using this
  | t :: ts, s, acc, Q, ht, q => by
    simp only [List.map_cons, List.forIn_cons]
    have h0 := ht t List.mem_cons_self
    refine wpAny_bind (wpAny_bind (wpAny_holding ((begins_tuple t.1 t.2).iter prog w A E s _ h0 ?_)))
    refine wpAny_pure ?_
    have up : ∀ {b o}, s.heap.get? b = some o → (s.heap.push { cls := .type "tuple_iterator", data := .fields #[.ref t.1, .int 0 0] }).get? b = some o := fun e => Heap.get?_push_of_some _ e
    have hsz : (s.heap.push { cls := .type "tuple_iterator", data := .fields #[.ref t.1, .int 0 0] }).objs.size = s.heap.objs.size + 1 := Heap.size_push ..
    refine iter_all ts { s with heap := s.heap.push { cls := .type "tuple_iterator", data := .fields #[.ref t.1, .int 0 0] } } (acc.push _) Q (fun u hu => ?_) fun h' a1 a2 a3 => ?_
    · obtain ⟨o, e1, e2⟩ := ht u (List.mem_cons_of_mem _ hu)
      exact ⟨o, up e1, e2⟩
    · rw [hsz] at a1 a2
      have := q h' (fun c hc => ?_) (by rw [a2, List.length_cons]; omega) fun b o hb => a3 b o (up hb)
      · rw [colsOf] at this
        rw [hsz]
        simpa using this
      · rw [colsOf] at hc
        rcases List.mem_cons.mp hc with rfl | hc
        · refine ⟨⟨_, a3 _ _ (Heap.get?_push_size _ rfl), rfl, rfl⟩, ?_⟩
          obtain ⟨o, e1, e2⟩ := h0
          exact ⟨o, a3 _ _ (up e1), e2⟩
        · exact a1 c hc
theorem zip_new {ts : List (Addr × Array Value)} : Meets (Builtin.«zip.__new__» ⟨.type "zip" :: ts.map (fun t => Value.ref t.1), []⟩) (fun _ R s => (∀ t ∈ ts, s.heap.IsTuple t.1 t.2) ∧ ts.length ≤ 12 ∧
    ∀ h', ZSt (s.heap.objs.size + ts.length + 2) (s.heap.objs.size + ts.length) (s.heap.objs.size + ts.length + 1) (colsOf s.heap.objs.size ts) 0 h' → IsZ h' (s.heap.objs.size + ts.length + 2) (s.heap.objs.size + ts.length) (s.heap.objs.size + ts.length + 1) .none false → h'.objs.size = s.heap.objs.size + ts.length + 3 → (∀ b o, s.heap.get? b = some o → h'.get? b = some o) → R (.ok (.ret (.ref (s.heap.objs.size + ts.length + 2)))) { s with heap := h' }) :=
  .of_wp fun prog w A R s h => by
    obtain ⟨ht, hl, h⟩ := h
    unfold Builtin.«zip.__new__»
    unfold Builtin.SmallTypes.newClass
    simp only [List.length_nil]
    have hsub : isSubtype (Value.type "zip") (Value.type "zip") = pure true := by rfl
    have hty : isType (Value.type "zip") = pure true := by rfl
    rw [hty, hsub]
    refine wpAny_bind (wpAny_bind (wpAny_pure ?_))
    refine wpAny_ite_false (by rfl) (wpAny_bind (wpAny_pure ?_))
    refine wpAny_ite_false (by rfl) (wpAny_pure ?_)
    refine wpAny_ite_false (by decide) ?_
    unfold Builtin.SmallTypes.iterAll
    refine wpAny_bind (wpAny_bind (iter_all ts s #[] _ ht fun h1 a1 a2 a3 => ?_))
    refine wpAny_pure ?_
    have hlen := colsOf_len ts s.heap.objs.size
    have hz : ∀ n, n ≤ 12 → n ≤ sizeLine := fun n hn => by rw [sizeLine_eq]; omega
    have e1 : (#[] ++ ((colsOf s.heap.objs.size ts).map fun (c : Col) => Value.ref c.1).toArray).toList = (colsOf s.heap.objs.size ts).map fun (c : Col) => Value.ref c.1 := by rw [Array.empty_append]
    rw [e1]
    refine wpAny_bind (wpAny_newTuple ?_ (hz _ (by simp [hlen, hl])))
    refine wpAny_bind (wpAny_newTuple ?_ (hz _ (by simp [hlen, hl])))
    unfold Builtin.SmallTypes.newRecord
    refine wpAny_bind ?_
    dsimp only
    have sz1 : (h1.push { cls := .type "tuple", data := .seq ((colsOf s.heap.objs.size ts).map fun (c : Col) => Value.ref c.1).toArray }).objs.size = s.heap.objs.size + ts.length + 1 := by rw [Heap.size_push, a2]
    rw [a2, sz1]
    unfold newObj
    wp_walk
    have sz2 : ∀ o : Obj, ((h1.push { cls := .type "tuple", data := .seq ((colsOf s.heap.objs.size ts).map fun (c : Col) => Value.ref c.1).toArray }).push o).objs.size = s.heap.objs.size + ts.length + 2 := fun o => by rw [Heap.size_push, sz1]
    refine ⟨_, rfl, ?_⟩
    rw [sz2]
    have up : ∀ {b o o1 o2 o3}, h1.get? b = some o → (((h1.push o1).push o2).push o3).get? b = some o := fun e => Heap.get?_push_of_some _ (Heap.get?_push_of_some _ (Heap.get?_push_of_some _ e))
    have hz0 : IsZ (((h1.push { cls := .type "tuple", data := .seq ((colsOf s.heap.objs.size ts).map fun (c : Col) => Value.ref c.1).toArray }).push { cls := .type "tuple", data := .seq (((colsOf s.heap.objs.size ts).map fun (c : Col) => Value.ref c.1).map fun _ => Value.none).toArray }).push { cls := .type "zip", data := .fields (Builtin.SmallTypes.ownedTupleFields ++ [Value.bool false, Value.ref (s.heap.objs.size + ts.length), Value.ref (s.heap.objs.size + ts.length + 1)]).toArray }) (s.heap.objs.size + ts.length + 2) (s.heap.objs.size + ts.length) (s.heap.objs.size + ts.length + 1) .none false := by
      have := Heap.get?_push_size ((h1.push { cls := .type "tuple", data := .seq ((colsOf s.heap.objs.size ts).map fun (c : Col) => Value.ref c.1).toArray }).push { cls := .type "tuple", data := .seq (((colsOf s.heap.objs.size ts).map fun (c : Col) => Value.ref c.1).map fun _ => Value.none).toArray }) (o := { cls := .type "zip", data := .fields (Builtin.SmallTypes.ownedTupleFields ++ [Value.bool false, Value.ref (s.heap.objs.size + ts.length), Value.ref (s.heap.objs.size + ts.length + 1)]).toArray }) rfl
      rw [sz2] at this
      exact this
    refine h _ ⟨⟨.none, false, hz0, .inl rfl⟩, ?_, ⟨(colsOf s.heap.objs.size ts).map fun _ => Value.none, ?_, by rw [List.length_map]⟩, fun c hc => ?_⟩ hz0 (by rw [Heap.size_push, sz2]) fun b o e => up (a3 b o e)
    · refine Heap.get?_push_of_some _ (Heap.get?_push_of_some _ ?_)
      have := Heap.get?_push_size h1 (o := { cls := .type "tuple", data := .seq ((colsOf s.heap.objs.size ts).map fun (c : Col) => Value.ref c.1).toArray }) rfl
      rw [a2] at this
      exact this
    · refine Heap.get?_push_of_some _ ?_
      have := Heap.get?_push_size (h1.push { cls := .type "tuple", data := .seq ((colsOf s.heap.objs.size ts).map fun (c : Col) => Value.ref c.1).toArray }) (o := { cls := .type "tuple", data := .seq (((colsOf s.heap.objs.size ts).map fun (c : Col) => Value.ref c.1).map fun _ => Value.none).toArray }) rfl
      rw [sz1, List.map_map] at this
      rw [List.map_map]
      exact this
    · obtain ⟨⟨o1, e1, e2⟩, ⟨o2, e3, e4⟩⟩ := a1 c hc
      exact ⟨⟨o1, up e1, e2⟩, ⟨o2, up e3, e4⟩⟩
theorem zip_begins {ts : List (Addr × Array Value)} {Q : Value → Shared → Prop} (ht : ∀ t ∈ ts, s.heap.IsTuple t.1 t.2) (hl : ts.length ≤ 12)
    (q : ∀ h', ZSt (s.heap.objs.size + ts.length + 2) (s.heap.objs.size + ts.length) (s.heap.objs.size + ts.length + 1) (colsOf s.heap.objs.size ts) 0 h' → IsZ h' (s.heap.objs.size + ts.length + 2) (s.heap.objs.size + ts.length) (s.heap.objs.size + ts.length + 1) .none false → h'.objs.size = s.heap.objs.size + ts.length + 3 → (∀ b o, s.heap.get? b = some o → h'.get? b = some o) → Q (.ref (s.heap.objs.size + ts.length + 2)) { s with heap := h' }) :
    wpAny (model prog w) A (call (.type "zip") (ts.map fun t => Value.ref t.1)) Q E s := by
  refine callType_new F.called_zip (by decide) (tc_zip _) (nc_zip _ (by rw [List.length_map]; exact hl)) (fun obj => oi_any obj _) F.entry_zip_new zip_new ⟨ht, hl, fun h' a1 a0 a2 a3 => ⟨⟨_, a0, rfl⟩, q h' a1 a0 a2 a3⟩⟩
/-- next(z) within another iterator -/
theorem nextOf_zip {f0 : Value} {f1 : Bool} {Q : Value → Shared → Prop} (hz : IsZ s.heap z TI TO f0 f1) (h : wpAny (model prog w) A.in1 (Builtin.«zip.__next__» { pos := [.ref z] }) (fun fin s' => ∃ v, fin = .done (.ret v) ∧ Q v s') E s) : wpAny (model prog w) A (Builtin.SmallTypes.nextOf (.ref z)) Q E s := by
  unfold Builtin.SmallTypes.nextOf
  have ht : s.TypeIs (.ref z) "zip" := ⟨_, hz, rfl⟩
  refine wpAny_bind (wpAny_callSpecial?_slot ht F.slot_zip_next (wpAny_call_entry F.slot_zip_next ht F.entry_zip_next ?_ (F.args_zip_next_1 _)))
  refine wpAny_mono h (fun fin s' ⟨v, e, q⟩ => ⟨v, e, wpAny_pure q⟩) fun _ _ e => e
/-- a turn of enumerate(zip(*rows)) -/
theorem en_item {e : Addr} {j : Int} {old : Value} {Q : Value → Shared → Prop} (S : Sep z TI TO cs) (hne : cs ≠ []) (h1000 : cs.length ≤ 1000) (he : IsEnum s.heap e z j old) (ez : e ≠ z ∧ e ≠ TO ∧ e ∉ cs.map (·.1) ∧ e ≠ TI ∧ ∀ c ∈ cs, c.2.1 ≠ e) (st : ZSt z TI TO cs i s.heap) (hlt : ∀ c ∈ cs, i < c.2.2.size)
    (q : ∀ h1 h' (ys : List Value) (tk : Nat), IsT h1 s.heap.objs.size ys → ys.length = cs.length → (∀ (k : Nat) (c : Col) (y : Value), cs[k]? = some c → ys[k]? = some y → c.2.2[i]? = some y) → h1.objs.size = s.heap.objs.size + 1 → (∀ b o, b ≠ z → b ≠ TO → b ∉ cs.map (·.1) → s.heap.get? b = some o → h1.get? b = some o) → (∀ b o, b ≠ e → h1.get? b = some o → h'.get? b = some o) → h'.get? (s.heap.objs.size + 1) = some { cls := .type "tuple", data := .seq #[.int j tk, .ref s.heap.objs.size] } → IsEnumOut h' e z (j + 1) (.ref s.heap.objs.size) (s.heap.objs.size + 1) → ZSt z TI TO cs (i + 1) h' → Q (.ref (s.heap.objs.size + 1)) { s with heap := h', toks := tk + 1 }) :
    wpAny (model prog w) A (Builtin.«enumerate.__next__» { pos := [.ref e] }) (fun fin s' => ∃ v, fin = .done (.ret v) ∧ Q v s') E s := by
  obtain ⟨f0, f1, hz, _⟩ := st.z
  have hel := Heap.lt_size he
  unfold Builtin.«enumerate.__next__»
  simp only [slotArgs]
  refine wpAny_bind (wpAny_pure ?_)
  refine wpAny_bind (wpAny_field he rfl rfl ?_)
  refine wpAny_bind (nextOf_zip hz (zn_item S hne h1000 st hlt fun h1 ys a1 a2 a3 a4 a5 a6 => ?_))
  have he1 : IsEnum h1 e z j old := a6 e _ ez.1 ez.2.1 ez.2.2.1 he
  refine wpAny_bind (wpAny_field he1 rfl rfl ?_)
  show wpAny (model prog w) A (do
      let given ← field (Value.ref e) 4
      if (given == Value.none) = true then do
          let index ← mkInt j
          setField (Value.ref e) 3 (rawInt (j + 1))
          setField (Value.ref e) 4 Value.none
          let result ← newTuple [index, Value.ref s.heap.objs.size]
          let __do_lift ← Builtin.SmallTypes.ownedTupleIsFree (Value.ref e)
          if __do_lift = true then do
              rule "enumerate.__next__.owned-tuple-again"
              let old ← field (Value.ref e) 5
              setField (Value.ref e) 5 (Value.ref s.heap.objs.size)
              Builtin.SmallTypes.ownedTupleHandOut (Value.ref e) result
              letGo [old] [result]
              ret result
            else ret result
        else do
          let index ← pure given
          setField (Value.ref e) 3 (rawInt (j + 1))
          setField (Value.ref e) 4 Value.none
          let result ← newTuple [index, Value.ref s.heap.objs.size]
          let __do_lift ← Builtin.SmallTypes.ownedTupleIsFree (Value.ref e)
          if __do_lift = true then do
              rule "enumerate.__next__.owned-tuple-again"
              let old ← field (Value.ref e) 5
              setField (Value.ref e) 5 (Value.ref s.heap.objs.size)
              Builtin.SmallTypes.ownedTupleHandOut (Value.ref e) result
              letGo [old] [result]
              ret result
            else ret result) _ _ _
  refine wpAny_bind (wpAny_field he1 rfl rfl ?_)
  refine wpAny_ite_true (by rfl) (wpAny_bind (wpAny_mkInt ?_))
  refine wpAny_bind (wpAny_setField_rec he1 (by simp) fun h2 hz2 sb2 => ?_)
  refine wpAny_bind (wpAny_setField_rec hz2 (by simp) fun h3 hz3 sb3 => ?_)
  refine wpAny_bind (wpAny_newTuple ?_ (by rw [sizeLine_eq]; simp))
  have hs3 : h3.objs.size = s.heap.objs.size + 1 := by rw [sb3.1, sb2.1, a5]
  have hez : e ≠ s.heap.objs.size + 1 := Nat.ne_of_lt (Nat.lt_succ_of_lt hel)
  have hz4 : (h3.push { cls := .type "tuple", data := .seq #[.int j s.toks, .ref s.heap.objs.size] }).get? e = some { cls := .type "enumerate", data := .fields #[.none, .bool false, .ref z, rawInt (j + 1), .none, old] } := Heap.get?_push_of_some _ hz3
  unfold Builtin.SmallTypes.ownedTupleIsFree
  refine wpAny_bind (wpAny_bind (wpAny_field hz4 rfl rfl ?_))
  refine wpAny_pure ?_
  refine wpAny_ite_true (by rfl) (wpAny_bind (wpAny_rule ?_))
  refine wpAny_bind (wpAny_field hz4 rfl rfl ?_)
  refine wpAny_bind (wpAny_setField_rec hz4 (by simp) fun h5 hz5 sb5 => ?_)
  unfold Builtin.SmallTypes.ownedTupleHandOut
  refine wpAny_bind (wpAny_bind (wpAny_setField_rec hz5 (by simp) fun h6 hz6 sb6 => ?_))
  refine wpAny_setField_rec hz6 (by simp) fun h7 hz7 sb7 => ?_
  refine wpAny_bind (wpAny_letGo ?_)
  refine wpAny_pure ⟨_, rfl, ?_⟩
  show Q (Value.ref h3.objs.size) _
  rw [hs3]
  have keep : ∀ {b o}, b ≠ e → h1.get? b = some o → h7.get? b = some o := fun hb hg => by
    rw [sb7.2 _ hb, sb6.2 _ hb, sb5.2 _ hb]
    refine Heap.get?_push_of_some _ ?_
    rw [sb3.2 _ hb, sb2.2 _ hb]; exact hg
  refine q h1 h7 ys s.toks a1 a2 a3 a5 a6 (fun b o hb hg => keep hb hg) ?_ ?_ ?_
  · rw [sb7.2 _ (Ne.symm hez), sb6.2 _ (Ne.symm hez), sb5.2 _ (Ne.symm hez), ← hs3]
    exact Heap.get?_push_size _ rfl
  · show h7.get? e = some { cls := .type "enumerate", data := .fields #[rawInt ((s.heap.objs.size + 1 : Nat) : Int), .bool false, .ref z, rawInt (j + 1), .none, .ref s.heap.objs.size] }
    rw [← hs3]; exact hz7
  · obtain ⟨⟨f0', f1', b1, b2⟩, b3, ⟨os, b4, b5⟩, b6⟩ := a4
    refine ⟨⟨f0', f1', keep (Ne.symm ez.1) b1, b2⟩, ?_, ⟨os, keep (Ne.symm ez.2.1) b4, b5⟩, fun c hc => ?_⟩
    · exact keep (Ne.symm ez.2.2.2.1) b3
    · obtain ⟨⟨o1, e1, e2⟩, ⟨o2, e3, e4⟩⟩ := b6 c hc
      exact ⟨⟨o1, keep (fun h => ez.2.2.1 (by rw [← h]; exact List.mem_map.mpr ⟨c, hc, rfl⟩)) e1, e2⟩, ⟨o2, keep (ez.2.2.2.2 c hc) e3, e4⟩⟩
/-- enumerate(zip(*rows)) is at its end -/
theorem en_end {e : Addr} {j : Int} {old : Value} {Q : PySem.Fin → Shared → Prop} (hh : A.in1.handled = none) (S : Sep z TI TO cs) (hne : cs ≠ []) (he : IsEnum s.heap e z j old) (st : ZSt z TI TO cs i s.heap) (hend : ∀ c ∈ cs, c.2.2.size = i)
    (q : ∀ h' e, (∀ b o, b ≠ z → b ∉ cs.map (·.1) → s.heap.get? b = some o → h'.get? b = some o) → (∃ o, h'.get? e = some o ∧ o.cls = .type "StopIteration") → E (.ref e) { s with heap := h' }) :
    wpAny (model prog w) A (Builtin.«enumerate.__next__» { pos := [.ref e] }) Q E s := by
  obtain ⟨f0, f1, hz, _⟩ := st.z
  unfold Builtin.«enumerate.__next__»
  simp only [slotArgs]
  refine wpAny_bind (wpAny_pure ?_)
  refine wpAny_bind (wpAny_field he rfl rfl ?_)
  refine wpAny_bind (nextOf_zip hz (zn_end hh S hne st hend q))
theorem meets_enumerate_newZ : Meets (Builtin.«enumerate.__new__» ⟨[.type "enumerate", .ref z], []⟩) (fun _ R s => (∃ TI TO f0, IsZip s.heap z TI TO f0) ∧
      R (.ok (.ret (.ref s.heap.objs.size))) { s with heap := s.heap.push { cls := .type "enumerate", data := .fields #[.none, .bool false, .ref z, rawInt 0, .none, .none] } }) :=
  .of_wp fun prog w A R s h => by
    obtain ⟨hp, g, d, tk, os⟩ := s; obtain ⟨⟨TI, TO, f0, h1⟩, h⟩ := h
    have hsub := sub_enumerate
    have q1 : ∀ {A' : Around} {E : Value → Shared → Prop} {Q : Value → Shared → Prop}, Q (.ref z) ⟨hp, g, d, tk, os⟩ → wpAny (model prog w) A' (pyIter (.ref z)) Q E ⟨hp, g, d, tk, os⟩ :=
      fun q => wpAny_pyIter_zip h1 q
    wp_walk using q1
    refine wpAny_stack_any fun st => wpAny_pure ?_
    split
    · rename_i c _ _ _ _ _
      cases (c == Value.type "enumerate")
      · wp_walk using q1
        exact ⟨_, rfl, h⟩
      · wp_walk using q1
        exact ⟨_, rfl, h⟩
    · wp_walk using q1
      exact ⟨_, rfl, h⟩
theorem enum_zip {f0 : Value} {Q : Value → Shared → Prop} (hz : IsZip s.heap z TI TO f0)
    (q : IsEnum (s.heap.push { cls := .type "enumerate", data := .fields #[.none, .bool false, .ref z, rawInt 0, .none, .none] }) s.heap.objs.size z 0 .none → Q (.ref s.heap.objs.size) { s with heap := s.heap.push { cls := .type "enumerate", data := .fields #[.none, .bool false, .ref z, rawInt 0, .none, .none] } }) :
    wpAny (model prog w) A (call (.type "enumerate") [.ref z]) Q E s := by
  refine callType_new F.called_enumerate (by decide) (F.typeCall_enumerate_1 _) (F.newCall_enumerate_1 _) (fun obj => F.args_object_init_2 obj _) F.entry_enumerate_new
    meets_enumerate_newZ ⟨⟨TI, TO, f0, hz⟩, ?_⟩
  have he : IsEnum (s.heap.push { cls := .type "enumerate", data := .fields #[.none, .bool false, .ref z, rawInt 0, .none, .none] }) s.heap.objs.size z 0 .none := Heap.get?_push_size s.heap (o := { cls := .type "enumerate", data := .fields #[.none, .bool false, .ref z, rawInt 0, .none, .none] }) rfl
  exact ⟨⟨_, he, rfl⟩, q he⟩
theorem next_enum {e : Addr} {j : Int} {old : Value} {Q : Option Value → Shared → Prop} (he : IsEnum s.heap e z j old) (h : wpAny (model prog w) A.in1 (Builtin.«enumerate.__next__» { pos := [.ref e] }) (fun fin s' => ∃ v, fin = .done (.ret v) ∧ Q (some v) s') (fun x s' => (∃ o a, x = .ref a ∧ s'.heap.get? a = some o ∧ o.cls = .type "StopIteration") ∧ Q none s') s) :
    wpAny (model prog w) A (pyNext (.ref e)) Q E s := by
  unfold pyNext
  have ht : s.TypeIs (.ref e) "enumerate" := ⟨_, he, rfl⟩
  refine wpAny_bind (wpAny_attempt (wpAny_callSpecial?_slot ht F.slot_enumerate_next (wpAny_call_entry F.slot_enumerate_next ht F.entry_enumerate_next ?_ (F.args_enumerate_next_1 _))))
  refine wpAny_mono h (fun fin s' ⟨v, e, q⟩ => ⟨v, e, wpAny_pure q⟩) fun x s' ⟨⟨o, a, ex, e1, e2⟩, q⟩ => ?_
  subst ex
  refine wpAny_bind (wpAny_isInstance ⟨o, e1, e2⟩ isSubtype_stop ?_)
  exact wpAny_pure q
end
/-- enumerate(zip(*rows)): the rows stand at ts -/
def ItZ (K : PySem.W.Frag) (ts : List Addr) : It :=
  ⟨fun i H => ∃ xss : List (List V), ts.length = xss.length ∧ (∀ (k : Nat) (t : Addr) (xs : List V), ts[k]? = some t → xss[k]? = some xs → SqT K H t xs) ∧ ∀ xs ∈ xss, i < xs.length,
    fun i H v H' => ∃ (T L : Addr) (col : List V), v = .ref T ∧ H L = none ∧ H T = none ∧ T ≠ L ∧ H' = upd (upd H L (.tup col)) T (.tup [.int (i : Nat), .ref L]) ∧ col.length = ts.length ∧ ∀ (k : Nat) (t : Addr) (xs : List V), ts[k]? = some t → SqT K H t xs → ∃ x, xs[i]? = some x ∧ col[k]? = some x,
    fun i H => ∃ xss : List (List V), ts.length = xss.length ∧ (∀ (k : Nat) (t : Addr) (xs : List V), ts[k]? = some t → xss[k]? = some xs → SqT K H t xs) ∧ ∀ xs ∈ xss, xs.length = i⟩
theorem tup_inj {h : Heap} {a : Addr} {x y : Array Value} (p : h.IsTuple a x) (q : h.IsTuple a y) : x = y := by
  obtain ⟨o, e, c, n, d⟩ := p
  obtain ⟨o', e', c', n', d'⟩ := q
  rw [e] at e'; cases e'
  rw [d] at d'; cases d'; rfl
/-- iterators and rows, without what stands in the rows -/
abbrev Row := Addr × Addr
structure ZS (z TI TO : Addr) (ds : List Row) (i : Nat) (h : Heap) : Prop where
  z : ∃ f0 f1, IsZ h z TI TO f0 f1 ∧ (f0 = .none ∨ ∃ a : Nat, f0 = rawInt a)
  ti : IsT h TI (ds.map fun d => .ref d.1)
  to : ∃ os, IsT h TO os ∧ os.length = ds.length
  it : ∀ d ∈ ds, h.IsTupleIter d.1 d.2 i
def mkc (ds : List Row) (as : List (Array Value)) : List Col := List.zipWith (fun d x => (d.1, d.2, x)) ds as
theorem mkc_len {ds : List Row} {as : List (Array Value)} (h : as.length = ds.length) : (mkc ds as).length = ds.length := by unfold mkc; rw [List.length_zipWith]; omega
theorem mkc_map {β : Type} (f : Row → β) : ∀ {ds : List Row} {as : List (Array Value)}, as.length = ds.length → (mkc ds as).map (fun c => f (c.1, c.2.1)) = ds.map f
  | [], _, _ => rfl
  | d :: ds, [], h => by simp at h
  | d :: ds, a :: as, h => by
    show f (d.1, d.2) :: (mkc ds as).map _ = _
    rw [mkc_map f (by simpa using h)]; rfl
theorem mkc_mem : ∀ {ds : List Row} {as : List (Array Value)} {c : Col}, c ∈ mkc ds as → ∃ k : Nat, ds[k]? = some (c.1, c.2.1) ∧ as[k]? = some c.2.2
  | [], _, c, h => by simp [mkc] at h
  | d :: ds, [], c, h => by simp [mkc] at h
  | d :: ds, a :: as, c, h => by
    rcases List.mem_cons.mp (show c ∈ (d.1, d.2, a) :: mkc ds as from h) with rfl | h
    · exact ⟨0, rfl, rfl⟩
    · obtain ⟨k, h1, h2⟩ := mkc_mem h
      exact ⟨k + 1, by simpa using h1, by simpa using h2⟩
theorem mkc_get {ds : List Row} {as : List (Array Value)} {k : Nat} {d : Row} {x : Array Value} (h1 : ds[k]? = some d) (h2 : as[k]? = some x) : (mkc ds as)[k]? = some (d.1, d.2, x) := by
  unfold mkc
  rw [List.getElem?_zipWith, h1, h2]
structure Fp (e z TI TO : Addr) (ds : List Row) : Prop where
  nd : (ds.map (·.1)).Nodup
  it : ∀ d ∈ ds, d.1 ≠ z ∧ d.1 ≠ TI ∧ d.1 ≠ TO ∧ d.1 ≠ e
  tu : ∀ d ∈ ds, d.2 ≠ z ∧ d.2 ≠ TO ∧ d.2 ∉ ds.map (·.1) ∧ d.2 ≠ e
  zt : TI ≠ z ∧ TO ≠ z ∧ TI ≠ TO ∧ e ≠ z ∧ e ≠ TO ∧ e ≠ TI
theorem Fp.sep {e z TI TO : Addr} {ds : List Row} (F : Fp e z TI TO ds) {as : List (Array Value)} (h : as.length = ds.length) : Sep z TI TO (mkc ds as) := by
  have e1 := mkc_map (fun d => d.1) h
  have hm : ∀ {c}, c ∈ mkc ds as → (c.1, c.2.1) ∈ ds := fun hc => by obtain ⟨k, h1, _⟩ := mkc_mem hc; exact List.mem_of_getElem? h1
  refine ⟨by rw [show (mkc ds as).map (·.1) = ds.map (·.1) from e1]; exact F.nd, fun c hc => ?_, fun c hc => ?_, F.zt.1, F.zt.2.1, F.zt.2.2.1⟩
  · have := F.it _ (hm hc); exact ⟨this.1, this.2.1, this.2.2.1⟩
  · have := F.tu _ (hm hc)
    refine ⟨this.1, this.2.1, ?_⟩
    rw [show (mkc ds as).map (·.1) = ds.map (·.1) from e1]; exact this.2.2.1
theorem ZS.full {z TI TO : Addr} {ds : List Row} {i : Nat} {h : Heap} {as : List (Array Value)} (st : ZS z TI TO ds i h) (hl : as.length = ds.length) (ht : ∀ (k : Nat) (d : Row) (x : Array Value), ds[k]? = some d → as[k]? = some x → h.IsTuple d.2 x) : ZSt z TI TO (mkc ds as) i h := by
  obtain ⟨hz, hti, ⟨os, ho, hol⟩, hit⟩ := st
  refine ⟨hz, ?_, ⟨os, ho, by rw [mkc_len hl]; exact hol⟩, fun c hc => ?_⟩
  · rw [show (mkc ds as).map (fun c => Value.ref c.1) = ds.map (fun d => Value.ref d.1) from mkc_map (fun d => Value.ref d.1) hl]; exact hti
  · obtain ⟨k, h1, h2⟩ := mkc_mem hc
    exact ⟨hit _ (List.mem_of_getElem? h1), ht k _ _ h1 h2⟩
theorem ZSt.less {z TI TO : Addr} {ds : List Row} {i : Nat} {h : Heap} {as : List (Array Value)} (hl : as.length = ds.length) (st : ZSt z TI TO (mkc ds as) i h) : ZS z TI TO ds i h := by
  obtain ⟨hz, hti, ⟨os, ho, hol⟩, hat⟩ := st
  refine ⟨hz, ?_, ⟨os, ho, by rw [← mkc_len hl]; exact hol⟩, fun d hd => ?_⟩
  · rw [← show (mkc ds as).map (fun c => Value.ref c.1) = ds.map (fun d => Value.ref d.1) from mkc_map (fun d => Value.ref d.1) hl]; exact hti
  · obtain ⟨k, hk⟩ := List.mem_iff_getElem?.mp hd
    have hkl := (List.getElem?_eq_some_iff.mp hk).1
    have := hat _ (List.mem_of_getElem? (mkc_get hk (List.getElem?_eq_getElem (by omega))))
    exact this.1
def fpZ (e z TI TO : Addr) (ds : List Row) : List Addr := e :: z :: TI :: TO :: ds.map (·.1)
theorem ex_list {β : Type} {P : Nat → β → Prop} : ∀ n, (∀ k, k < n → ∃ x, P k x) → ∃ l : List β, l.length = n ∧ ∀ (k : Nat) (x : β), l[k]? = some x → P k x
  | 0, _ => ⟨[], rfl, fun k x h => by simp at h⟩
  | n + 1, h => by
    obtain ⟨l, h1, h2⟩ := ex_list n fun k hk => h k (by omega)
    obtain ⟨x, hx⟩ := h n (by omega)
    refine ⟨l ++ [x], by simp [h1], fun k y hy => ?_⟩
    by_cases hk : k < n
    · rw [List.getElem?_append_left (by omega)] at hy; exact h2 k y hy
    · rw [List.getElem?_append_right (by omega)] at hy
      have : k - l.length = 0 := by have := (List.getElem?_eq_some_iff.mp hy).1; simp at this; omega
      rw [this] at hy
      have e : k = n := by omega
      subst e
      simp at hy; subst hy; exact hx
theorem vals_of : ∀ (vs : List V) (us : List Value), vs.length = us.length → (∀ (k : Nat) (v : V) (u : Value), vs[k]? = some v → us[k]? = some u → RelV v u) → Vals vs us
  | [], [], _, _ => .nil
  | [], _ :: _, h, _ => by simp at h
  | _ :: _, [], h, _ => by simp at h
  | v :: vs, u :: us, h, r => .cons (r 0 v u rfl rfl) (vals_of vs us (by simpa using h) fun k v' u' h1 h2 => r (k + 1) v' u' (by simpa using h1) (by simpa using h2))
theorem fpZ_cases {e z TI TO b : Addr} {ds : List Row} (h : b ∉ fpZ e z TI TO ds) : b ≠ e ∧ b ≠ z ∧ b ≠ TI ∧ b ≠ TO ∧ b ∉ ds.map (·.1) := by
  simp only [fpZ, List.mem_cons, not_or] at h
  exact ⟨h.1, h.2.1, h.2.2.1, h.2.2.2.1, h.2.2.2.2⟩
theorem rows_of {X : Cx} {pins : List (Addr × Obj)} {σ : L2.St} {H : Hp} {s : Shared} {ds : List Row} {xss : List (List V)} (I : Inv X pins σ H s) (hl : ds.length = xss.length) (hx : ∀ (k : Nat) (t : Addr) (xs : List V), (ds.map (·.2))[k]? = some t → xss[k]? = some xs → SqT X.K H t xs) :
    ∃ as : List (Array Value), as.length = ds.length ∧ ∀ (k : Nat) (x : Array Value), as[k]? = some x → ∀ (d : Row) (xs : List V), ds[k]? = some d → xss[k]? = some xs → s.heap.IsTuple d.2 x ∧ ∃ its : List Value, Vals xs its ∧ x = its.toArray := by
  refine ex_list (P := fun k x => ∀ (d : Row) (xs : List V), ds[k]? = some d → xss[k]? = some xs → s.heap.IsTuple d.2 x ∧ ∃ its : List Value, Vals xs its ∧ x = its.toArray) ds.length fun k hk => ?_
  have h1 := hx k _ _ (by rw [List.getElem?_map, List.getElem?_eq_getElem hk]; rfl) (List.getElem?_eq_getElem (by omega))
  obtain ⟨its, rv, p, _⟩ := I.tuple h1
  refine ⟨its.toArray, fun d xs e1 e2 => ?_⟩
  rw [List.getElem?_eq_getElem hk] at e1
  rw [List.getElem?_eq_getElem (by omega)] at e2
  cases e1; cases e2
  exact ⟨p, its, rv, rfl⟩
theorem turn_Z {P : Program} {w : World} {K : PySem.W.Frag} {elts : List PySem.Expr} {kk : Nat} {tpos : Pos} {e z TI TO : Addr} {ds : List Row} (F : Fp e z TI TO ds) (hne : ds ≠ []) (h1000 : ds.length ≤ 1000) :
    Turn P w K (.Tuple elts kk tpos) (ItZ K (ds.map (·.2))) (fpZ e z TI TO ds) e (fun i h => (∃ old, IsEnum h e z ((i : Nat) : Int) old) ∧ ZS z TI TO ds i h) where
  mem := by simp [fpZ]
  obj := fun i h st b hb => by
    obtain ⟨⟨old, he⟩, ⟨⟨f0, f1, hz, _⟩, hTI, ⟨os, hTO, _⟩, hat⟩⟩ := st
    rcases List.mem_cons.mp hb with q | hb
    · rw [q]; exact ⟨_, he, fun v q => nomatch q⟩
    rcases List.mem_cons.mp hb with q | hb
    · rw [q]; exact ⟨_, hz, fun v q => nomatch q⟩
    rcases List.mem_cons.mp hb with q | hb
    · rw [q]; exact ⟨_, hTI, fun v q => nomatch q⟩
    rcases List.mem_cons.mp hb with q | hb
    · rw [q]; exact ⟨_, hTO, fun v q => nomatch q⟩
    obtain ⟨c, hc, rfl⟩ := List.mem_map.mp hb
    obtain ⟨o, e1, _, e2⟩ := hat c hc
    exact ⟨o, e1, fun v q => by rw [e2] at q; cases q⟩
  keep := fun i h h' st k => by
    obtain ⟨⟨old, he⟩, ⟨⟨f0, f1, hz, hf⟩, hTI, ⟨os, hTO, ho⟩, hat⟩⟩ := st
    refine ⟨⟨old, k e (by simp [fpZ]) _ he⟩, ⟨f0, f1, k z (by simp [fpZ]) _ hz, hf⟩, k TI (by simp [fpZ]) _ hTI, ⟨os, k TO (by simp [fpZ]) _ hTO, ho⟩, fun d hd => ?_⟩
    obtain ⟨o, e1, e2⟩ := hat d hd
    exact ⟨o, k d.1 (by simp only [fpZ, List.mem_cons]; exact .inr (.inr (.inr (.inr (List.mem_map.mpr ⟨d, hd, rfl⟩))))) _ e1, e2⟩
  item := by
    intro X hP hw hK hc i pins s σ H E I hf st hg
    subst hP hw hK
    obtain ⟨⟨old, he⟩, zs⟩ := st
    obtain ⟨xss, hl, hx, hlt⟩ := hg
    rw [List.length_map] at hl
    obtain ⟨as, hal, has⟩ := rows_of I hl hx
    have hsz : ∀ c ∈ mkc ds as, ∃ (k : Nat) (xs : List V) (its : List Value), ds[k]? = some (c.1, c.2.1) ∧ xss[k]? = some xs ∧ Vals xs its ∧ c.2.2 = its.toArray := fun c hc' => by
      obtain ⟨k, h1, h2⟩ := mkc_mem hc'
      have hk := (List.getElem?_eq_some_iff.mp h1).1
      obtain ⟨xs, hxs⟩ : ∃ xs, xss[k]? = some xs := ⟨_, List.getElem?_eq_getElem (by omega)⟩
      obtain ⟨_, its, rv, ex⟩ := has k _ h2 _ _ h1 hxs
      exact ⟨k, xs, its, h1, hxs, rv, ex⟩
    have full := zs.full hal fun k d x h1 h2 => by
      have hk := (List.getElem?_eq_some_iff.mp h1).1
      exact (has k x h2 d _ h1 (List.getElem?_eq_getElem (by omega))).1
    have S := F.sep hal
    have hne' : mkc ds as ≠ [] := fun h => hne (List.length_eq_zero_iff.mp (by rw [← mkc_len hal, h]; rfl))
    have emap : (mkc ds as).map (·.1) = ds.map (·.1) := mkc_map (fun d => d.1) hal
    have hel := Heap.lt_size he
    have ez : e ≠ z ∧ e ≠ TO ∧ e ∉ (mkc ds as).map (·.1) ∧ e ≠ TI ∧ ∀ c ∈ mkc ds as, c.2.1 ≠ e := by
      refine ⟨F.zt.2.2.2.1, F.zt.2.2.2.2.1, ?_, F.zt.2.2.2.2.2, fun c hc' => ?_⟩
      · rw [emap]; intro h; obtain ⟨d, hd, q⟩ := List.mem_map.mp h; exact (F.it d hd).2.2.2 q
      · obtain ⟨k, h1, _⟩ := mkc_mem hc'
        exact (F.tu _ (List.mem_of_getElem? h1)).2.2.2
    refine next_enum he (en_item S hne' (by rw [mkc_len hal]; exact h1000) he ez full (fun c hc' => ?_) fun h1 h' ys tk a1 a2 a3 a4 a5 a6 a7 a8 a9 => ?_)
    · obtain ⟨k, xs, its, q1, q2, rv, ex⟩ := hsz c hc'
      have := hlt xs (List.mem_of_getElem? q2)
      rw [ex]; simp; rw [← rv.length]; exact this
    · refine ⟨_, rfl, wpAny_letOwnedTupleGo_enum (s := { s with heap := h', toks := tk + 1 }) a8 fun h'' he' sb => ?_⟩
      rw [mkc_len hal] at a2
      have hcol : Vals (xss.map fun xs => xs.getD i .non) ys := vals_of _ _ (by rw [List.length_map]; omega) fun k v u e1 e2 => by
        rw [List.getElem?_map, Option.map_eq_some_iff] at e1
        obtain ⟨xs, hxs, rfl⟩ := e1
        have hk := (List.getElem?_eq_some_iff.mp hxs).1
        obtain ⟨d, hd⟩ : ∃ d, ds[k]? = some d := ⟨_, List.getElem?_eq_getElem (by omega)⟩
        obtain ⟨x, hxa⟩ : ∃ x, as[k]? = some x := ⟨_, List.getElem?_eq_getElem (by omega)⟩
        obtain ⟨_, its, rv, ex⟩ := has k x hxa d xs hd hxs
        have e3 := a3 k _ u (mkc_get hd hxa) e2
        rw [ex] at e3
        have hi := hlt xs (List.mem_of_getElem? hxs)
        obtain ⟨u', hu', ru⟩ := rv.get (List.getElem?_eq_getElem hi)
        have : u' = u := by
          have e4 : its[i]? = some u := by simpa using e3
          rw [hu'] at e4; exact Option.some.inj e4
        subst this
        rw [List.getD_eq_getElem?_getD, List.getElem?_eq_getElem hi]
        exact ru
      have hys : ys.length ≤ sizeLine := by rw [sizeLine_eq]; omega
      have new1 : ObjOk X.prog X.w (upd H s.heap.objs.size (.tup (xss.map fun xs => xs.getD i .non))) h1 s.heap.objs.size (.tup (xss.map fun xs => xs.getD i .non)) :=
        ⟨by rw [List.length_map, ← hl, ← a2]; exact hys, ys, hcol, ⟨_, a1, rfl, _, rfl⟩⟩
      have I1 : Inv X pins σ (upd H s.heap.objs.size (.tup (xss.map fun xs => xs.getD i .non))) { s with heap := h1, toks := tk + 1 } :=
        I.turnedNew (t' := tk + 1) (ch := fpZ e z TI TO ds) (fun b o hb q => by
          have := fpZ_cases hb
          exact a5 b o this.2.1 this.2.2.2.1 (by rw [emap]; exact this.2.2.2.2) q) hf (Nat.le_refl _) new1
      have hL : s.heap.objs.size ≠ s.heap.objs.size + 1 := Nat.ne_of_lt (Nat.lt_succ_self _)
      have heL : e ≠ s.heap.objs.size := Nat.ne_of_lt hel
      have heT : e ≠ s.heap.objs.size + 1 := Nat.ne_of_lt (Nat.lt_succ_of_lt hel)
      have hT2 : h''.get? (s.heap.objs.size + 1) = some { cls := .type "tuple", data := .seq #[.int i tk, .ref s.heap.objs.size] } := (sb.2 _ (Ne.symm heT)).trans a7
      have new2 : ObjOk X.prog X.w (upd (upd H s.heap.objs.size (.tup (xss.map fun xs => xs.getD i .non))) (s.heap.objs.size + 1) (.tup [.int (i : Nat), .ref s.heap.objs.size])) h'' (s.heap.objs.size + 1) (.tup [.int (i : Nat), .ref s.heap.objs.size]) :=
        ⟨by show 2 ≤ sizeLine; decide, [.int i tk, .ref s.heap.objs.size], .cons ⟨_, rfl⟩ (.cons rfl .nil), ⟨_, hT2, rfl, _, rfl⟩⟩
      have fe := hf e (by simp [fpZ])
      have I2 : Inv X pins σ (upd (upd H s.heap.objs.size (.tup (xss.map fun xs => xs.getD i .non))) (s.heap.objs.size + 1) (.tup [.int (i : Nat), .ref s.heap.objs.size])) { s with heap := h'', toks := tk + 1 } :=
        I1.turnedNew (t' := tk + 1) (ch := [e]) (fun b o hb q => by
          have hbe : b ≠ e := by simpa using hb
          exact (sb.2 b hbe).trans (a6 b o hbe q)) (fun b hb => by
            rw [List.mem_singleton.mp hb]
            exact ⟨by rw [upd_ne heL]; exact fe.1, fe.2⟩) (by show h1.objs.size ≤ _; rw [a4]; exact Nat.le_refl _) new2
      refine ⟨.ref (s.heap.objs.size + 1), _, I2, rfl, ⟨s.heap.objs.size + 1, s.heap.objs.size, _, rfl, I.hok.fresh (Nat.le_refl _), I.hok.fresh (Nat.le_succ _), Ne.symm hL, rfl, by rw [List.length_map, List.length_map]; omega, fun k t xs e1 e2 => ?_⟩, ⟨⟨.ref s.heap.objs.size, ?_⟩, ?_⟩, fun b hb => ?_⟩
      · have hk := (List.getElem?_eq_some_iff.mp e1).1
        rw [List.length_map] at hk
        obtain ⟨xs', hxs'⟩ : ∃ xs', xss[k]? = some xs' := ⟨_, List.getElem?_eq_getElem (by omega)⟩
        have := I.tuple_inj e2 (hx k t xs' e1 hxs')
        subst this
        have hi := hlt xs (List.mem_of_getElem? hxs')
        refine ⟨xs[i], List.getElem?_eq_getElem hi, ?_⟩
        rw [List.getElem?_map, hxs']
        show some (xs.getD i .non) = _
        rw [List.getD_eq_getElem?_getD, List.getElem?_eq_getElem hi]; rfl
      · have e1 : ((i + 1 : Nat) : Int) = (i : Int) + 1 := by omega
        rw [e1]; exact he'
      · obtain ⟨⟨f0, f1, b1, b2⟩, b3, ⟨os, b4, b5⟩, b6⟩ := a9.less hal
        have k2 : ∀ {b o}, b ≠ e → h'.get? b = some o → h''.get? b = some o := fun hb q => (sb.2 _ hb).trans q
        refine ⟨⟨f0, f1, k2 (Ne.symm F.zt.2.2.2.1) b1, b2⟩, k2 (Ne.symm F.zt.2.2.2.2.2) b3, ⟨os, k2 (Ne.symm F.zt.2.2.2.2.1) b4, b5⟩, fun d hd => ?_⟩
        obtain ⟨o, q1, q2⟩ := b6 d hd
        exact ⟨o, k2 (F.it d hd).2.2.2 q1, q2⟩
      · have hbl : b < s.heap.objs.size := by
          rcases List.mem_cons.mp hb with q | hb
          · rw [q]; exact hel
          rcases List.mem_cons.mp hb with q | hb
          · rw [q]; obtain ⟨f0, f1, hz, _⟩ := zs.z; exact Heap.lt_size hz
          rcases List.mem_cons.mp hb with q | hb
          · rw [q]; exact Heap.lt_size zs.ti
          rcases List.mem_cons.mp hb with q | hb
          · rw [q]; obtain ⟨os, ho, _⟩ := zs.to; exact Heap.lt_size ho
          obtain ⟨d, hd, rfl⟩ := List.mem_map.mp hb
          obtain ⟨o, q1, _⟩ := zs.it d hd
          exact Heap.lt_size q1
        rw [upd_ne (Nat.ne_of_lt (Nat.lt_succ_of_lt hbl)), upd_ne (Nat.ne_of_lt hbl)]
        exact (hf b hb).1
  done := by
    intro X hP hw hK hc i pins s σ H E I hf st hg
    subst hP hw hK
    obtain ⟨⟨old, he⟩, zs⟩ := st
    obtain ⟨xss, hl, hx, hend⟩ := hg
    rw [List.length_map] at hl
    obtain ⟨as, hal, has⟩ := rows_of I hl hx
    have full := zs.full hal fun k d x h1 h2 => by
      have hk := (List.getElem?_eq_some_iff.mp h1).1
      exact (has k x h2 d _ h1 (List.getElem?_eq_getElem (by omega))).1
    have S := F.sep hal
    have hne' : mkc ds as ≠ [] := fun h => hne (List.length_eq_zero_iff.mp (by rw [← mkc_len hal, h]; rfl))
    have emap : (mkc ds as).map (·.1) = ds.map (·.1) := mkc_map (fun d => d.1) hal
    have hh : X.A.in1.handled = none := I.ok.hd hc
    refine next_enum he (en_end hh S hne' he full (fun c hc' => ?_) fun h' x fr ho => ?_)
    · obtain ⟨k, h1, h2⟩ := mkc_mem hc'
      have hk := (List.getElem?_eq_some_iff.mp h1).1
      obtain ⟨xs, hxs⟩ : ∃ xs, xss[k]? = some xs := ⟨_, List.getElem?_eq_getElem (by omega)⟩
      obtain ⟨_, its, rv, ex⟩ := has k _ h2 _ _ h1 hxs
      rw [ex]; simp; rw [← rv.length]; exact hend xs (List.mem_of_getElem? hxs)
    · obtain ⟨o, o1, o2⟩ := ho
      refine ⟨⟨o, x, rfl, o1, o2⟩, rfl, I.turnedL (t' := s.toks) (ch := fpZ e z TI TO ds) (fun b o hb q => ?_) hf⟩
      have := fpZ_cases hb
      exact fr b o this.2.1 (by rw [emap]; exact this.2.2.2.2) q
  self := fun A i s Q E st h => let ⟨⟨_, he⟩, _⟩ := st; wpAny_pyIter_enum he h
theorem sep_new {s : Shared} {ts : List (Addr × Array Value)} (ht : ∀ t ∈ ts, t.1 < s.heap.objs.size) :
    Fp (s.heap.objs.size + ts.length + 3) (s.heap.objs.size + ts.length + 2) (s.heap.objs.size + ts.length) (s.heap.objs.size + ts.length + 1) ((colsOf s.heap.objs.size ts).map fun c => (c.1, c.2.1)) := by
  have hc : ∀ {c : Col}, c ∈ colsOf s.heap.objs.size ts → s.heap.objs.size ≤ c.1 ∧ c.1 < s.heap.objs.size + ts.length ∧ c.2.1 < s.heap.objs.size := fun h => by
    obtain ⟨h1, h2, h3⟩ := colsOf_mem h
    exact ⟨h1, h2, ht _ h3⟩
  have hm : ((colsOf s.heap.objs.size ts).map fun c => ((c.1, c.2.1) : Row)).map (·.1) = (colsOf s.heap.objs.size ts).map (·.1) := by rw [List.map_map]; rfl
  refine ⟨by rw [hm]; exact colsOf_nd _ _, fun d hd => ?_, fun d hd => ?_, Nat.ne_of_lt (by omega), Nat.ne_of_lt (by omega), Nat.ne_of_lt (by omega), Nat.ne_of_gt (by omega), Nat.ne_of_gt (by omega), Nat.ne_of_gt (by omega)⟩
  · obtain ⟨c, h, rfl⟩ := List.mem_map.mp hd
    obtain ⟨h1, h2, h3⟩ := hc h
    exact ⟨Nat.ne_of_lt (Nat.lt_of_lt_of_le h2 (by omega)), Nat.ne_of_lt h2, Nat.ne_of_lt (Nat.lt_of_lt_of_le h2 (by omega)), Nat.ne_of_lt (Nat.lt_of_lt_of_le h2 (by omega))⟩
  · obtain ⟨c, h, rfl⟩ := List.mem_map.mp hd
    obtain ⟨h1, h2, h3⟩ := hc h
    refine ⟨Nat.ne_of_lt (Nat.lt_of_lt_of_le h3 (by omega)), Nat.ne_of_lt (Nat.lt_of_lt_of_le h3 (by omega)), ?_, Nat.ne_of_lt (Nat.lt_of_lt_of_le h3 (by omega))⟩
    rw [hm]
    intro hm2
    obtain ⟨c', h', e⟩ := List.mem_map.mp hm2
    have q := (hc h').1
    have e : c'.1 = c.2.1 := e
    rw [e] at q
    exact absurd h3 (Nat.not_lt.mpr q)
/-- type(*xs) -/
theorem callWith_typeS {X : Cx} {pins : List (Addr × Obj)} {σ : L2.St} {H : Hp} {s : Shared} {T : String} {e : PySem.Expr} {te : TE} {sp pos : Pos} {Q : Value → Shared → Prop} (I : Inv X pins σ H s) (he : PE X e te)
    {k : VK} (h : te σ H k) (hk : ∀ y H1, k y H1 → ∃ a xs, y = V.ref a ∧ (SqT X.K H1 a xs ∨ SqL X.K H1 a xs) ∧ ∀ us s', Inv X pins σ H1 s' → Vals xs us → wpAny (model X.prog X.w) X.A (call (.type T) us) Q X.xe s')
    (hs : starEach [e.Starred sp] X.env = [(true, eval e X.env)] := by rfl) :
    wpAny (model X.prog X.w) X.A (callWith pos (.type T) [] (backTo pos (starEach [e.Starred sp] X.env)) []) Q X.xe s := by
  rw [hs]
  refine W.ks_call (P := fun _ => True) (by rfl) (fun h _ => ⟨.machine, .inr (.inl rfl), fun A Q E s _ q => wpAny_pure q⟩) (W.ks_lone ?_)
  refine wpAny_mono (he.run pins s σ H _ I h) (fun v s1 ⟨y, H1, I1, r1, hq⟩ => ?_) fun _ _ x => x
  obtain ⟨a, xs, e1, hq', q⟩ := hk y H1 hq
  subst e1
  cases r1
  exact StX.star_any I1 hq' fun us s' I' rv => ⟨trivial, q us s' I' rv⟩
def iEnumZ (K : PySem.W.Frag) (te : TE) : TI := fun σ H R => te σ H fun y H1 => ∃ (a : Addr) (ts : List Addr) (xss : List (List V)), y = .ref a ∧ SqT K H1 a (ts.map V.ref) ∧ ts ≠ [] ∧ ts.length ≤ 12 ∧ ts.length = xss.length ∧ (∀ (k : Nat) (t : Addr) (xs : List V), ts[k]? = some t → xss[k]? = some xs → SqT K H1 t xs) ∧ R (ItZ K ts) H1
theorem pi_enumZ {X : Cx} {e : PySem.Expr} {te : TE} {p p2 sp pos pos2 tpos : Pos} {elts : List PySem.Expr} {kk : Nat} (hg : Gl X "enumerate") (hm : X.mg "enumerate" = none) (hgz : Gl X "zip") (hmz : X.mg "zip" = none) (he : PE X e te)
    (hs : starEach [.Call (.Name "zip" p2) [e.Starred sp] [] pos2] X.env = [(false, eval (.Call (.Name "zip" p2) [e.Starred sp] [] pos2) X.env)] := by rfl) (hs2 : starEach [e.Starred sp] X.env = [(true, eval e X.env)] := by rfl) :
    PI X (.Tuple elts kk tpos) (.Call (.Name "enumerate" p) [.Call (.Name "zip" p2) [e.Starred sp] [] pos2] [] pos) (iEnumZ X.K te) := by
  refine ⟨fun pins s σ H R I h => ?_⟩
  refine Call_ (ld_blt I hg hm boot_enumerate (PyProof.Rows.callWith_type1 ?_ hs rfl))
  rw [hs]
  refine Calls.spliced_cons ?_
  refine wpAny_ite_false (by decide) ?_
  refine Call_ (ld_blt I hgz hmz boot_zip (callWith_typeS I he h (fun y H1 hq => ?_) hs2))
  obtain ⟨a, ts, xss, ey, hT, hne, h12, hl, hx, hR⟩ := hq
  refine ⟨a, ts.map V.ref, ey, .inl hT, fun us s1 I1 rv => ?_⟩
  have eus : us = ts.map Value.ref := by
    clear hT hx hR hl h12 hne
    induction ts generalizing us with
    | nil => cases rv; rfl
    | cons t ts ih =>
      cases rv with
      | cons r rr => cases r; rw [ih _ rr]; rfl
  subst eus
  -- what stands in the rows
  obtain ⟨as, hal, has⟩ : ∃ as : List (Array Value), as.length = ts.length ∧ ∀ (k : Nat) (x : Array Value), as[k]? = some x → ∀ t, ts[k]? = some t → s1.heap.IsTuple t x := by
    refine ex_list (P := fun k x => ∀ t, ts[k]? = some t → s1.heap.IsTuple t x) ts.length fun k hk => ?_
    obtain ⟨its, rv, p, _⟩ := I1.tuple (hx k _ _ (List.getElem?_eq_getElem hk) (List.getElem?_eq_getElem (by omega)))
    refine ⟨its.toArray, fun t e1 => ?_⟩
    rw [List.getElem?_eq_getElem hk] at e1
    cases e1; exact p
  have hzl : (ts.zip as).length = ts.length := by rw [List.length_zip]; omega
  have hmap : (ts.zip as).map (fun t => Value.ref t.1) = ts.map Value.ref := by
    rw [show (fun t : Addr × Array Value => Value.ref t.1) = Value.ref ∘ Prod.fst from rfl, ← List.map_map, List.map_fst_zip (by omega)]
  have hit : ∀ t ∈ ts.zip as, s1.heap.IsTuple t.1 t.2 := fun t ht => by
    obtain ⟨k, hk⟩ := List.mem_iff_getElem?.mp ht
    rw [List.getElem?_zip_eq_some] at hk
    exact has k t.2 hk.2 t.1 hk.1
  rw [← hmap]
  refine zip_begins hit (by omega) fun h' st hz hsz up => ?_
  refine wpAny_pure ?_
  refine enum_zip hz fun hen => wpAny_pyIter_enum hen ?_
  have up2 : ∀ {b o}, h'.get? b = some o → (h'.push { cls := .type "enumerate", data := .fields #[.none, .bool false, .ref (s1.heap.objs.size + (ts.zip as).length + 2), rawInt 0, .none, .none] }).get? b = some o := fun e => Heap.get?_push_of_some _ e
  have I2 : Inv X pins σ H1 { s1 with heap := h'.push { cls := .type "enumerate", data := .fields #[.none, .bool false, .ref (s1.heap.objs.size + (ts.zip as).length + 2), rawInt 0, .none, .none] } } := I1.kept (t' := s1.toks) fun b o e => up2 (up b o e)
  have F := sep_new (s := s1) (ts := ts.zip as) fun t ht => by obtain ⟨o, e1, _⟩ := hit t ht; exact Heap.lt_size e1
  have zs : ZS (s1.heap.objs.size + (ts.zip as).length + 2) (s1.heap.objs.size + (ts.zip as).length) (s1.heap.objs.size + (ts.zip as).length + 1) ((colsOf s1.heap.objs.size (ts.zip as)).map fun c => (c.1, c.2.1)) 0 (h'.push { cls := .type "enumerate", data := .fields #[.none, .bool false, .ref (s1.heap.objs.size + (ts.zip as).length + 2), rawInt 0, .none, .none] }) := by
    obtain ⟨_, b3, ⟨os, b4, b5⟩, b6⟩ := st
    refine ⟨⟨_, _, up2 hz, .inl rfl⟩, ?_, ⟨os, up2 b4, by rw [List.length_map]; exact b5⟩, fun d hd => ?_⟩
    · rw [List.map_map]; exact up2 b3
    · obtain ⟨c, hc, rfl⟩ := List.mem_map.mp hd
      obtain ⟨⟨o, q1, q2⟩, _⟩ := b6 c hc
      exact ⟨o, up2 q1, q2⟩
  have ets : (((colsOf s1.heap.objs.size (ts.zip as)).map fun c => ((c.1, c.2.1) : Row)).map (·.2)) = ts := by
    rw [List.map_map]
    have := colsOf_snd (ts.zip as) s1.heap.objs.size
    rw [List.map_fst_zip (by omega)] at this
    exact this
  rw [← hsz] at F
  rw [hsz] at F
  refine ⟨s1.heap.objs.size + (ts.zip as).length + 3, _, _, _, H1, by show Value.ref h'.objs.size = _; rw [hsz], I2, turn_Z F (fun h => hne (by rw [← ets, h]; rfl)) (by rw [List.length_map, colsOf_len]; omega), ⟨⟨.none, by rw [← hsz]; exact hen⟩, zs⟩, fun b hb => ?_, by rw [ets]; exact hR⟩
  have hle : s1.heap.objs.size ≤ b := by
    rcases List.mem_cons.mp hb with q | hb
    · rw [q]; exact Nat.le_add_right_of_le (Nat.le_add_right _ _)
    rcases List.mem_cons.mp hb with q | hb
    · rw [q]; exact Nat.le_add_right_of_le (Nat.le_add_right _ _)
    rcases List.mem_cons.mp hb with q | hb
    · rw [q]; exact Nat.le_add_right _ _
    rcases List.mem_cons.mp hb with q | hb
    · rw [q]; exact Nat.le_add_right_of_le (Nat.le_add_right _ _)
    obtain ⟨d, hd, rfl⟩ := List.mem_map.mp hb
    obtain ⟨c, hc, rfl⟩ := List.mem_map.mp hd
    exact (colsOf_mem hc).1
  exact I1.fpOk hle (I1.hok.fresh hle)
end RwZ

set_option Elab.async false
set_option linter.all false
set_option maxRecDepth 100000
set_option maxHeartbeats 4000000
namespace RW
open PySem PySem.Spec PyProof.Rows L2
open Evl (Ex)
section
variable {K : PySem.W.Frag} {te : TE} {env : Env1} {S S1 : List Dat} {B : Hp}
theorem reps_rows : ∀ {rows : List (List Int)} {vs : List V}, Reps K B vs (rows.map fun r => Dat.tup (r.map Dat.int)) → ∃ ts : List Addr, vs = ts.map V.ref ∧ ts.length = rows.length ∧ ∀ (k : Nat) (t : Addr) (r : List Int), ts[k]? = some t → rows[k]? = some r → SqT K B t (r.map V.int)
  | [], _, .nil => ⟨[], rfl, rfl, fun k t r h => by simp at h⟩
  | r :: rows, _, .cons h rr => by
    cases h with
    | tup h1 q1 =>
      obtain ⟨ts, e1, e2, e3⟩ := reps_rows rr
      have := q1.ints
      subst this
      refine ⟨_ :: ts, by rw [e1]; rfl, by simp [e2], fun k t r' a b => ?_⟩
      cases k with
      | zero => simp at a b; subst a b; exact h1
      | succ k => exact e3 k t r' (by simpa using a) (by simpa using b)
def zipZ (rows : List (List Int)) (m : Nat) : List Dat := (List.range m).map fun i => Dat.tup [.int (i : Nat), .tup ((rows.map fun r => r.getD i 0).map Dat.int)]
/-- enumerate(zip(*rows)) -/
theorem it_enumZ {rows : List (List Int)} {m : Nat} (h : Ev K te env S (.d (.tup (rows.map fun r => Dat.tup (r.map Dat.int)))) S1) (hne : rows ≠ []) (h12 : rows.length ≤ 12) (hm : ∀ r ∈ rows, r.length = m) : IterD K (RwZ.iEnumZ K te) env S G0 (zipZ rows m) S1 := fun B H as σ c g R q => h B H as σ c g _ fun v B1 H1 c1 e1 r1 => by
  cases r1 with
  | tup h1 q1 =>
    obtain ⟨ts, rfl, hl, ht⟩ := reps_rows q1
    have sq : ∀ B2 H2 as2 S2, Ex B1 B2 → Ok K B2 H2 as2 S2 → ∀ (k : Nat) (t : Addr) (r : List Int), ts[k]? = some t → rows[k]? = some r → SqT K H2 t (r.map V.int) := fun B2 H2 as2 S2 e c2 k t r a b => Evl.ex_t c2.ex (Evl.ex_t e (ht k t r a b))
    have sq2 : ∀ B2 H2 as2 S2, Ex B1 B2 → Ok K B2 H2 as2 S2 → ∀ (k : Nat) (t : Addr) (xs : List V), ts[k]? = some t → (rows.map fun r => r.map V.int)[k]? = some xs → SqT K H2 t xs := fun B2 H2 as2 S2 e c2 k t xs a b => by
      rw [List.getElem?_map, Option.map_eq_some_iff] at b
      obtain ⟨r, b, rfl⟩ := b
      exact sq B2 H2 as2 S2 e c2 k t r a b
    refine ⟨_, ts, rows.map fun r => r.map V.int, rfl, Evl.ex_t c1.ex h1, fun z => hne (List.length_eq_zero_iff.mp (by rw [← hl, z]; rfl)), by omega, by rw [List.length_map]; exact hl, sq2 B1 H1 as S1 (Evl.Ex.refl _) c1, q _ B1 H1 c1 e1 ⟨fun B2 H2 as2 S2 i e c2 _ hi => ?_, fun B2 H2 as2 S2 i x H3 e c2 _ hi y => ?_, fun B2 H2 as2 S2 e c2 _ => ?_⟩⟩
    · rw [zipZ, List.length_map, List.length_range] at hi
      refine ⟨rows.map fun r => r.map V.int, by rw [List.length_map]; exact hl, sq2 B2 H2 as2 S2 e c2, fun xs hxs => ?_⟩
      obtain ⟨r, hr, rfl⟩ := List.mem_map.mp hxs
      rw [List.length_map, hm r hr]; exact hi
    · rw [zipZ, List.length_map, List.length_range] at hi
      obtain ⟨T, L, col, rfl, hL, hT, hTL, rfl, hcl, hcol⟩ := y
      have ecol : col = (rows.map fun r => r.getD i 0).map V.int := by
        refine List.ext_getElem? fun k => ?_
        by_cases hk : k < rows.length
        · obtain ⟨t, hkt⟩ : ∃ t, ts[k]? = some t := ⟨_, List.getElem?_eq_getElem (by omega)⟩
          have hkr := List.getElem?_eq_getElem hk
          obtain ⟨x, hx1, hx2⟩ := hcol k t _ hkt (sq B2 H2 as2 S2 e c2 k t _ hkt hkr)
          rw [hx2, List.getElem?_map, List.getElem?_map, hkr]
          rw [List.getElem?_map, Option.map_eq_some_iff] at hx1
          obtain ⟨j, hj, rfl⟩ := hx1
          show some (V.int j) = some (V.int (rows[k].getD i 0))
          rw [List.getD_eq_getElem?_getD, hj]; rfl
        · rw [List.getElem?_eq_none (by omega), List.getElem?_eq_none (by rw [List.length_map, List.length_map]; omega)]
      subst ecol
      have c3 := c2.new (o := .tup ((rows.map fun r => r.getD i 0).map V.int)) hL
      have hT' : (upd H2 L (.tup ((rows.map fun r => r.getD i 0).map V.int))) T = none := by rw [upd_ne hTL]; exact hT
      have c4 := c3.new (o := .tup [.int (i : Nat), .ref L]) hT'
      refine ⟨_, .tup [.int (i : Nat), .tup ((rows.map fun r => r.getD i 0).map Dat.int)], c4, (Evo.new c2 hL).trans (Evo.new c3 hT'), by rw [zipZ, List.getElem?_map, List.getElem?_range hi]; rfl, ?_⟩
      have hL3 : (upd (upd B2 L (.tup ((rows.map fun r => r.getD i 0).map V.int))) T (.tup [.int (i : Nat), .ref L])) L = some (.tup ((rows.map fun r => r.getD i 0).map V.int)) := by
        rw [upd_ne (Ne.symm hTL)]; exact upd_same
      exact .tup (Evl.st_of upd_same) (.cons (.int _) (.cons (.tup (Evl.st_of hL3) (reps_ints _) (.inl hL3)) .nil)) (.inl upd_same)
    · rw [zipZ, List.length_map, List.length_range]
      refine ⟨rows.map fun r => r.map V.int, by rw [List.length_map]; exact hl, sq2 B2 H2 as2 S2 e c2, fun xs hxs => ?_⟩
      obtain ⟨r, hr, rfl⟩ := List.mem_map.mp hxs
      rw [List.length_map, hm r hr]
end
end RW

set_option Elab.async false
set_option linter.all false
set_option maxRecDepth 100000
set_option maxHeartbeats 4000000
namespace RwZ
open PySem PySem.Spec PyProof.Rows L2
/-- xs.count(y), numbers -/
def rCountI (K : PySem.W.Frag) : V → List V → Hp → VK → Prop := fun x xs H Q => ∃ (a : Addr) (ns : List Int) (y : Int), x = .ref a ∧ xs = [.int y] ∧ SqL K H a (ns.map V.int) ∧ Q (.int (ns.count y : Nat)) H
theorem countU {y : Int} : ∀ {ns : List Int} {us : List Value}, Vals (ns.map V.int) us → List.countP (eqU (.int y)) us = ns.count y
  | [], _, .nil => rfl
  | n :: ns, _, .cons (b := u) r rr => by
    rw [List.countP_cons, countU rr, List.count_cons, eqU_of r rfl]
    rfl
theorem flat_ints : ∀ ns : List Int, (ns.map V.int).all flatV = true
  | [] => rfl
  | n :: ns => by rw [List.map_cons, List.all_cons, flat_ints ns]; rfl
theorem mt_countI {X : Cx} : MtR X "list.count" (rCountI X.K) := by
  intro pins s σ H x xs v us Q I rx rxs h
  obtain ⟨a, ns, y, rfl, rfl, hs, q⟩ := h
  cases rx
  cases rxs with
  | cons r rr =>
    cases rr
    obtain ⟨its, rv, ⟨o, n, h1, h2, h3, h4⟩, _⟩ := I.list hs
    obtain ⟨cls, dd, data, sl⟩ := o
    simp only at h2 h3 h4
    subst h2 h3 h4
    refine call_meets F.slot_list_count ⟨_, h1, rfl⟩ F.entry_list_count (F.args_list_count_2 _ _) (SeqAt.list_countAt a its.toArray n none sl _ (eqU (.int y))) ⟨h1, fun u hu => mem_eqAt r rfl rv (flat_ints ns) u (by simpa using hu), ?_⟩
    refine ⟨.int (ns.count y : Nat), H, I.tok _, ⟨s.toks, ?_⟩, q⟩
    rw [show its.toArray.toList = its from rfl, countU rv]
end RwZ
namespace RW
open PySem PySem.Spec PyProof.Rows L2
section
variable {K : PySem.W.Frag} {to te ta tb : TE} {env : Env1} {S S1 S2 : List Dat} {x : Sl} {ns : List Int} {y : Int}
/-- xs.count(y) -/
theorem ev_countI (ho : Ev K to env S x S1) (hx : SeqL S1 x (ns.map Dat.int)) (h : Ev K te env S1 (.d (.int y)) S1) : Ev K (tBM K "list" (RwZ.rCountI K) to (tCons te tNil)) env S (.d (.int (ns.count y : Nat))) S1 := fun B H as σ c g Q q =>
  ho B H as σ c g _ fun v B1 H1 c1 e1 r1 => by
    obtain ⟨a, ws, rfl, hw, _⟩ := hx.read c1 r1
    refine ⟨.inl ⟨rfl, ws, Evl.sq_of hw⟩, h B1 H1 as σ c1 (g.mono e1.ex) _ fun w B2 H2 c2 e2 r2 => ?_⟩
    cases r2
    obtain ⟨a', vs, e3, hv, rv⟩ := hx.read c2 (r1.mono e2.ex)
    cases e3
    have := rv.ints
    subst this
    exact ⟨_, ns, y, rfl, rfl, Evl.sq_of hv, q _ B2 H2 c2 (e1.trans e2) (.int _)⟩
/-- xs.index(y), y among them -/
theorem ev_indexI (ho : Ev K to env S x S1) (hx : SeqL S1 x (ns.map Dat.int)) (h : Ev K te env S1 (.d (.int y)) S1) (hy : y ∈ ns) : Ev K (tBM K "list" (rIndex K) to (tCons te tNil)) env S (.d (.int (ns.idxOf y : Nat))) S1 := fun B H as σ c g Q q =>
  ho B H as σ c g _ fun v B1 H1 c1 e1 r1 => by
    obtain ⟨a, ws, rfl, hw, _⟩ := hx.read c1 r1
    refine ⟨.inl ⟨rfl, ws, Evl.sq_of hw⟩, h B1 H1 as σ c1 (g.mono e1.ex) _ fun w B2 H2 c2 e2 r2 => ?_⟩
    cases r2
    obtain ⟨a', vs, e3, hv, rv⟩ := hx.read c2 (r1.mono e2.ex)
    cases e3
    have := rv.ints
    subst this
    have hl := List.idxOf_lt_length_of_mem hy
    refine ⟨_, ns.map V.int, .int y, ns.idxOf y, .int y, rfl, rfl, Evl.sq_of hv, rfl, RwZ.flat_ints ns, ?_, by simp [eqV], fun m z' hm hz => ?_, q _ B2 H2 c2 (e1.trans e2) (.int _)⟩
    · rw [List.getElem?_map, List.getElem?_eq_getElem hl, List.getElem_idxOf]; rfl
    · rw [List.getElem?_map, Option.map_eq_some_iff] at hz
      obtain ⟨i, hi, rfl⟩ := hz
      have hml : m < ns.length := by omega
      have hne : i ≠ y := by
        rw [List.getElem?_eq_getElem hml] at hi
        have := List.not_of_lt_findIdx (p := (· == y)) (xs := ns) hm
        simp only [Option.some.injEq] at hi
        rw [hi] at this
        simpa using this
      simp [eqV, hne]
/-- gcd(a, b) -/
theorem cd_gcd {i j : Int} : CallD K rGcd [.d (.int i), .d (.int j)] S (.int ((Nat.gcd i.natAbs j.natAbs : Nat) : Int)) S := fun B H as vs c r Q q => by
  cases r with
  | cons r1 rr =>
    cases rr with
    | cons r2 rr =>
      cases rr; cases r1; cases r2
      exact ⟨i, j, rfl, q _ B H c Evo.refl (.int _)⟩
/-- x.bit_length() -/
theorem ev_bits {i : Int} (h : Ev K to env S (.d (.int i)) S1) : Ev K (tBits to) env S (.d (.int (Builtin.Int.intBits i))) S1 := fun B H as σ c g Q q =>
  h B H as σ c g _ fun v B1 H1 c1 e1 r1 => by
    cases r1
    exact ⟨i, rfl, q _ B1 H1 c1 e1 (.int _)⟩
/-- a >> b -/
theorem o_shr {i : Int} {k : Nat} : Op2 K (fun x y H Q => ∃ (i : Int) (k : Nat), x = .int i ∧ y = .int (k : Int) ∧ Q (.int (i / 2 ^ k)) H) (.d (.int i)) (.d (.int k)) S (.int (i / 2 ^ k)) := fun B H as v w c r1 r2 Q q => by
  cases r1; cases r2
  exact ⟨i, k, rfl, rfl, q _ B H c Evo.refl (.int _)⟩
end
end RW

set_option Elab.async false
set_option linter.all false
set_option maxRecDepth 100000
set_option maxHeartbeats 4000000
namespace RW
open PySem PySem.Spec PyProof.Rows L2
open Evl (Ex)
theorem Reps.del {K : PySem.W.Frag} {B : Hp} : ∀ {vs : List V} {ds : List Dat} (j : Nat), Reps K B vs ds → Reps K B (vs.eraseIdx j) (ds.eraseIdx j)
  | _, _, _, .nil => .nil
  | _, _, 0, .cons h r => r
  | _, _, j + 1, .cons h r => .cons h (Reps.del j r)
section
variable {K : PySem.W.Frag} {n : Nat} {to ti : TE} {env : Env1} {S S1 S2 : List Dat} {ds : List Dat} {P : Post} {u : TS} {k j : Nat} {i : Int}
/-- del xs[i] -/
theorem sp_delL (ho : Ev K to env S (.c k) S1) (hi : Ev K ti env S1 (.d (.int i)) S2) (hs : S2[k]? = some (.lst ds)) (hb : -(2 ^ 63) ≤ i ∧ i < 2 ^ 63) (hj : seqIndex? i ds.length = some j) (q : SP K n u env (S2.set k (.lst (ds.eraseIdx j))) P) :
    SP K n (tSeq (tDelL to ti) u) env S P := fun B0 H0 as0 Bk B H as σ hl f c g D m =>
  ho B H as σ c g _ fun w B1 H1 c1 e1 r1 => hi B1 H1 as σ c1 (g.mono e1.ex) _ fun w2 B2 H2 c2 e2 r2 => by
    obtain ⟨p, hp, rfl⟩ := r1
    cases r2
    obtain ⟨vs, hv, rv⟩ := (c2.cells k p _ hp hs).2.lst
    have e03 := (e1.trans e2).trans (Evo.setc (o := .lst (vs.eraseIdx j)) (List.mem_of_getElem? hp) hv (fun _ z => nomatch z))
    exact ⟨p, vs, i, j, rfl, rfl, hv, hb.1, hb.2, by rw [rv.length]; exact hj, q B0 H0 as0 Bk B2 _ as σ hl (f.step e03) (c2.setc hp (show CellO K B2 (.lst _) (.lst _) from rv.del j)) (g.mono e03.ex) D m⟩
end
section
variable {K : PySem.W.Frag} {n : Nat} {ta tb tc td te : TE} {env : Env1} {S : List Dat} {x y : Sl} {d : Dat} {ds es : List Dat} {P : Post} {u : TS} {i j k l k1 k2 : Nat} {B B0 H H0 : Hp} {as as0 : List Addr} {a : Addr} {o : HO}
theorem evo_know (e : Evo B0 H0 as0 B H) (hb : B a = none) (h0 : Nn H0 a) : Evo B0 H0 as0 (upd B a o) H :=
  ⟨e.ex.trans (Evl.Ex.new hb), e.fr, fun b o hb' nt => by rw [upd_ne (by rintro rfl; exact h0.no hb' nt)]; exact e.gr b o hb' nt, e.tp, e.pr⟩
/-- a, b, c, d = ([..], [..], e, f) -/
theorem sp_quadCC (h : EvN K ta env S ds S) (hv : EvN K tb env S es S) (hc : Ev K tc env S x S) (hd : Ev K td env S y S) (q : SP K n u ((((env.set i (some (.c S.length))).set j (some (.c (S.length + 1)))).set k (some x)).set l (some y)) (S ++ [.lst ds] ++ [.lst es]) P) :
    SP K n (tSeq (tAsg (tTup (tCons ta (tCons tb (tCons tc (tCons td tNil))))) (gTup K 4 (gCons (gName i) (gCons (gName j) (gCons (gName k) (gCons (gName l) gNil)))))) u) env S P := fun B0 H0 as0 Bk B H as σ hl f c g D m =>
  h B H as σ c g _ fun p B1 H1 vs c1 e1 hp hb h1 r1 => hv B1 H1 as σ c1 (g.mono e1.ex) _ fun p2 B2 H2 ws c2 e2 hp2 hb2 h2 r2 => hc B2 H2 as σ c2 (g.mono (e1.trans e2).ex) _ fun w3 B3 H3 c3 e3 r3 => hd B3 H3 as σ c3 (g.mono ((e1.trans e2).trans e3).ex) _ fun w4 B4 H4 c4 e4 r4 => ⟨by show 4 ≤ sizeLine; decide, fun t ht => by
    have hpa : p ∉ as := hp.1
    have hpa2 : p2 ∉ as := hp2.1
    have hpp : p ≠ p2 := by rintro rfl; exact hp2.2.no h1 (fun _ z => nomatch z)
    obtain ⟨a1, a2⟩ := ((e2.trans e3).trans e4).kept hpa h1 hb
    obtain ⟨b1, b2⟩ := (e3.trans e4).kept hpa2 h2 hb2
    have c5 := c4.new (o := .tup [.ref p, .ref p2, w3, w4]) ht
    have e5 := Evo.new (o := .tup [.ref p, .ref p2, w3, w4]) c4 ht
    have e05 := (((e1.trans e2).trans e3).trans e4).trans e5
    have npt : p ≠ t := by rintro rfl; rw [ht] at a1; cases a1
    have npt2 : p2 ≠ t := by rintro rfl; rw [ht] at b1; cases b1
    refine ⟨t, _, rfl, Evl.st_of upd_same, rfl, _, _, rfl, _, _, rfl, _, _, rfl, _, _, rfl, rfl, ?_⟩
    have c6 := c5.push (p := p) (by rw [upd_ne npt]; exact a2) hpa (.ofL (by rw [upd_ne npt]; exact a1) (r1.mono (((e2.trans e3).trans e4).trans e5).ex))
    have c7 := c6.push (p := p2) (by rw [upd_ne npt2]; exact b2) (by simp [hpa2, hpp.symm]) (.ofL (by rw [upd_ne npt2]; exact b1) (r2.mono ((e3.trans e4).trans e5).ex))
    have f6 := (f.step e05).push (f.evo.oldN hp.2)
    refine q B0 H0 as0 Bk _ _ (as ++ [p] ++ [p2]) _ hl (f6.push (f.evo.oldN (e1.oldN hp2.2))) c7 ((((((g.mono e05.ex).grow).grow.set (s := .c S.length) i ?_).set (s := .c (S.length + 1)) j ?_).set k ((r3.mono (e4.trans e5).ex).grow.grow)).set l ((r4.mono e5.ex).grow.grow)) D m
    · exact ⟨p, by rw [← c4.len]; simp, rfl⟩
    · exact ⟨p2, by rw [← c4.len]; simp, rfl⟩⟩
/-- return (xs, ys, e), two lists that were made here and changed -/
theorem sp_retCC (hi : env[i]? = some (some (.c k1))) (hj : env[j]? = some (some (.c k2))) (he : Ev K te env S (.d d) S) (hs1 : S[k1]? = some (.lst ds)) (hs2 : S[k2]? = some (.lst es)) (hne : k1 ≠ k2) (h1 : n ≤ k1) (h2 : n ≤ k2) (q : P.rt (.tup [.lst ds, .lst es, d]) (S.take n)) :
    SP K n (tRet (tTup (tCons (tVar i) (tCons (tVar j) (tCons te tNil))))) env S P := fun B0 H0 as0 Bk B H as σ hl f c g D m => by
  obtain ⟨v1, g1, a, ha, rfl⟩ := g.2 i _ hi
  obtain ⟨v2, g2, b, hb, rfl⟩ := g.2 j _ hj
  refine ⟨.ref a, g1, .ref b, g2, he B H as σ c g _ fun w B1 H1 c1 e1 r1 => ⟨by show 3 ≤ sizeLine; decide, fun t ht => ?_⟩⟩
  obtain ⟨ka, qa⟩ := c1.cells k1 a _ ha hs1
  obtain ⟨vs, va, ra⟩ := qa.lst
  obtain ⟨kb, qb⟩ := c1.cells k2 b _ hb hs2
  obtain ⟨ws, vb, rb⟩ := qb.lst
  have nat_ : a ≠ t := by rintro rfl; rw [ht] at va; cases va
  have nbt : b ≠ t := by rintro rfl; rw [ht] at vb; cases vb
  have nab : a ≠ b := fun z => hne (by
    subst z
    exact (List.getElem?_inj (List.getElem?_eq_some_iff.mp ha).1 c1.nd).mp (ha.trans hb.symm))
  have c2 := c1.new (o := .tup [.ref a, .ref b, w]) ht
  have e2 := Evo.new (o := .tup [.ref a, .ref b, w]) c1 ht
  have f2 := (f.step e1).step e2
  have c3 := c2.upto as0.length
  rw [f2.base] at c3
  subst hl
  have hin : ∀ {k : Nat} {a : Addr}, as[k]? = some a → as0.length ≤ k → a ∈ as.drop as0.length := fun {k a} h hk => by
    refine List.mem_of_getElem? (i := k - as0.length) ?_
    rw [List.getElem?_drop, show as0.length + (k - as0.length) = k by omega]
    exact h
  have hout : ∀ {a : Addr}, a ∈ as.drop as0.length → a ∉ as0 := fun {a} hd hm => by
    have nd := c1.nd
    rw [← List.take_append_drop as0.length as, f2.base] at nd
    exact (List.nodup_append.mp nd).2.2 a hm a hd rfl
  have da := hin ha h1
  have db := hin hb h2
  have ta' : upd B1 t (.tup [.ref a, .ref b, w]) a = none := by rw [upd_ne nat_]; exact ka
  have ha' : upd H1 t (.tup [.ref a, .ref b, w]) a = some (.lst vs) := by rw [upd_ne nat_]; exact va
  have c4 := c3.know ha' ta' (hout da)
  have tb' : upd (upd B1 t (.tup [.ref a, .ref b, w])) a (.lst vs) b = none := by rw [upd_ne nab.symm, upd_ne nbt]; exact kb
  have hb' : upd H1 t (.tup [.ref a, .ref b, w]) b = some (.lst ws) := by rw [upd_ne nbt]; exact vb
  have c5 := c4.know hb' tb' (hout db)
  have ev := evo_know (o := .lst ws) (evo_know (o := .lst vs) f2.evo ta' (f2.loc a da)) tb' (f2.loc b db)
  have x1 : Ex B1 (upd B1 t (.tup [.ref a, .ref b, w])) := e2.ex
  have x2 := x1.trans ((Evl.Ex.new (o := .lst vs) ta').trans (Evl.Ex.new (o := .lst ws) tb'))
  have ht2 : upd (upd (upd B1 t (.tup [.ref a, .ref b, w])) a (.lst vs)) b (.lst ws) t = some (.tup [.ref a, .ref b, w]) := by rw [upd_ne nbt.symm, upd_ne nat_.symm, upd_same]
  have ha2 : upd (upd (upd B1 t (.tup [.ref a, .ref b, w])) a (.lst vs)) b (.lst ws) a = some (.lst vs) := by rw [upd_ne nab, upd_same]
  exact m.rt (.ref t) _ _ _ _ c5 ev (.tup (Evl.st_of ht2) (.cons (.lst ha2 (ra.mono x2)) (.cons (.lst upd_same (rb.mono x2)) (.cons (r1.mono x2) .nil)))) q
end
end RW

set_option Elab.async false
set_option linter.all false
set_option maxRecDepth 100000
set_option maxHeartbeats 4000000
namespace RW
open PySem PySem.Spec PyProof.Rows L2
open Evl (Ex)
/-! ### objects that hold lists which change -/
section
variable {K : PySem.W.Frag} {n : Nat} {te ta tb tc to ti tv : TE} {tA : TA} {env env' : Env1} {S S1 S2 S3 : List Dat} {x y z : Sl} {d e : Dat} {ds es ds' : List Dat} {P P' : Post} {t u : TS}
  {B B0 B1 B2 B' Bk H H0 H1 H2 H' : Hp} {as as0 as1 : List Addr} {D : Ends} {σ : L2.St} {i j k : Nat} {p : Addr} {E : XK}
/-- the changed things that env names lie ahead of m -/
def EnvLt (m : Nat) : Env1 → Prop
  | [] => True
  | none :: e => EnvLt m e
  | some (.d _) :: e => EnvLt m e
  | some (.c k) :: e => k < m ∧ EnvLt m e
theorem EnvLt.get {m : Nat} : ∀ {env : Env1} {i k : Nat}, EnvLt m env → env[i]? = some (some (.c k)) → k < m
  | [], _, _, _, h => by simp at h
  | o :: e, 0, k, h, q => by
    simp at q; subst q
    exact h.1
  | none :: e, i + 1, k, h, q => EnvLt.get (env := e) (i := i) h (by simpa using q)
  | some (.d _) :: e, i + 1, k, h, q => EnvLt.get (env := e) (i := i) h (by simpa using q)
  | some (.c _) :: e, i + 1, k, h, q => EnvLt.get (env := e) (i := i) h.2 (by simpa using q)
/-- the last changed thing, a list that was made here, is left as it is from now on -/
theorem sp_freeze (hn : n ≤ S.length) (hi : env[i]? = some (some (.c S.length))) (hl : EnvLt S.length (env.set i none)) (q : SP K n t (env.set i (some (.d (.lst ds)))) S P) : SP K n t env (S ++ [.lst ds]) P := fun B0 H0 as0 Bk B H as σ hl0 f c g D m => by
  have hk : (S ++ [Dat.lst ds])[S.length]? = some (.lst ds) := by simp
  have hlen : as.length = S.length + 1 := by have := c.len; simpa using this
  obtain ⟨a, ha⟩ : ∃ a, as[S.length]? = some a := ⟨_, List.getElem?_eq_getElem (by omega)⟩
  obtain ⟨hb, q0⟩ := c.cells S.length a _ ha hk
  obtain ⟨vs, hv, rv⟩ := q0.lst
  have c1 := c.upto S.length
  rw [show (S ++ [Dat.lst ds]).take S.length = S from List.take_left ..] at c1
  have has : as = as.take S.length ++ [a] := by
    have h1 := List.take_append_drop S.length as
    have h2 : as.drop S.length = [a] := by
      apply List.ext_getElem?
      intro m
      rw [List.getElem?_drop]
      cases m with
      | zero => rw [Nat.add_zero, ha]; rfl
      | succ m => rw [List.getElem?_eq_none (by omega)]; simp
    rw [h2] at h1
    exact h1.symm
  have hna : a ∉ as.take S.length := fun hm => by
    have nd := c.nd
    rw [has] at nd
    exact (List.nodup_append.mp nd).2.2 a hm a (List.mem_singleton.mpr rfl) rfl
  have hd : a ∈ as.drop as0.length := by
    refine List.mem_of_getElem? (i := S.length - as0.length) ?_
    rw [List.getElem?_drop, show as0.length + (S.length - as0.length) = S.length by omega]
    exact ha
  have h0 := f.loc a hd
  have f1 : Fr B0 H0 as0 Bk (upd B a (.lst vs)) H (as.take S.length) := ⟨f.kn.trans (Ex.new hb), by rw [List.take_take, Nat.min_eq_left (by omega)]; exact f.base, ⟨f.evo.ex.trans (Ex.new hb), f.evo.fr, fun b o hb' nt => by rw [upd_ne (by rintro rfl; exact h0.no hb' nt)]; exact f.evo.gr b o hb' nt, f.evo.tp, f.evo.pr⟩, fun b hb2 => f.loc b (by
      rw [List.drop_take] at hb2
      exact List.mem_of_mem_take hb2)⟩
  have c2 := c1.know hv hb hna
  refine q B0 H0 as0 Bk _ H _ σ hl0 f1 c2 ⟨by rw [List.length_set]; exact g.1, fun r s hr => ?_⟩ D m
  by_cases e : i = r
  · subst e
    rw [List.getElem?_set_self (List.getElem?_eq_some_iff.mp hi).1] at hr
    cases hr
    obtain ⟨v, h1, a2, h2, rfl⟩ := g.2 i _ hi
    rw [ha] at h2; cases h2
    exact ⟨_, h1, .lst upd_same (rv.mono (Ex.new hb))⟩
  · have hr2 : (env.set i none)[r]? = some (some s) := by rw [List.getElem?_set_ne e] at hr ⊢; exact hr
    rw [List.getElem?_set_ne e] at hr
    obtain ⟨v, h1, h2⟩ := g.2 r s hr
    cases s with
    | d x => exact ⟨v, h1, Rep.mono (Ex.new hb) h2⟩
    | c k =>
      obtain ⟨b, h3, h4⟩ := h2
      exact ⟨v, h1, b, by rw [List.getElem?_take_of_lt (hl.get hr2)]; exact h3, h4⟩
/-- self.f = a new list, which will be changed -/
theorem sp_fldL {C : Addr} {fs : List (Str × Dat)} {f : Str} (h : EvN K tv env S ds S1) (hi : env[i]? = some (some (.c k))) (hs : S1[k]? = some (.ins C fs)) (cl : Cls K C) (na : NoAttr K C f) (hl : fs.length < 1000)
    (q : ∀ p : Addr, SP K n u env (S1.set k (.ins C (putFD f (.adr p) fs)) ++ [.lsa p ds]) P) : SP K n (tSeq (sFld K (tVar i) tv f) u) env S P := fun B0 H0 as0 Bk B H as σ hl0 f0 c g D m =>
  h B H as σ c g _ fun a B1 H1 ws c1 e1 hp hb h1 r1 => by
    obtain ⟨v, hv1, x, hx, rfl⟩ := g.2 i _ hi
    obtain ⟨dx, vs, hv, rv⟩ := (c1.cells k x _ hx hs).2.ins
    have hkl : k < S1.length := (List.getElem?_eq_some_iff.mp hs).1
    have hne : a ≠ x := fun z => hp.1 (z ▸ List.mem_of_getElem? hx)
    have c2 := c1.push (s0 := .lsa a ds) hb hp.1 ⟨_, h1, r1⟩ (fun _ _ _ _ _ _ z => nomatch z) (fun P z => Option.some.inj z)
    have hx2 : (as ++ [a])[k]? = some x := by rw [List.getElem?_append_left (List.getElem?_eq_some_iff.mp hx).1]; exact hx
    have hs2 : (S1 ++ [Dat.lsa a ds])[k]? = some (.ins C fs) := by rw [List.getElem?_append_left hkl]; exact hs
    have f2 : Fr B0 H0 as0 Bk B1 H1 (as ++ [a]) := (f0.step e1).push (f0.evo.oldN hp.2)
    have e3 : Evo B1 H1 (as ++ [a]) B1 (upd H1 x (.ins C dx (putF f (.ref a) vs))) := Evo.setc (List.mem_of_getElem? hx2) hv (fun _ z => nomatch z)
    have c3 := c2.setc (o := .ins C dx (putF f (.ref a) vs)) hx2 (show CellO K B1 (.ins C dx _) (.ins C (putFD f (.adr a) fs)) from ⟨rfl, RepF.put (.adr a) rv⟩) (c2.lkput hx2 hs2 hv (.adr a))
    rw [List.set_append_left _ _ hkl] at c3
    exact ⟨.ref x, hv1, x, C, dx, vs, rfl, hv, cl, na, by rw [rv.length]; exact hl, q a B0 H0 as0 Bk B1 _ _ σ hl0 (f2.step e3) c3 ((g.mono e1.ex).grow) D m⟩
theorem sp_fldL1 {C : Addr} {fs : List (Str × Dat)} {f : Str} (h : EvN K tv env S ds S1) (hi : env[i]? = some (some (.c k))) (hs : S1[k]? = some (.ins C fs)) (cl : Cls K C) (na : NoAttr K C f) (hl : fs.length < 1000)
    (q : ∀ p : Addr, P.nx env (S1.set k (.ins C (putFD f (.adr p) fs)) ++ [.lsa p ds])) : SP K n (sFld K (tVar i) tv f) env S P := fun B0 H0 as0 Bk B H as σ hl0 f0 c g D m =>
  h B H as σ c g _ fun a B1 H1 ws c1 e1 hp hb h1 r1 => by
    obtain ⟨v, hv1, x, hx, rfl⟩ := g.2 i _ hi
    obtain ⟨dx, vs, hv, rv⟩ := (c1.cells k x _ hx hs).2.ins
    have hkl : k < S1.length := (List.getElem?_eq_some_iff.mp hs).1
    have hne : a ≠ x := fun z => hp.1 (z ▸ List.mem_of_getElem? hx)
    have c2 := c1.push (s0 := .lsa a ds) hb hp.1 ⟨_, h1, r1⟩ (fun _ _ _ _ _ _ z => nomatch z) (fun P z => Option.some.inj z)
    have hx2 : (as ++ [a])[k]? = some x := by rw [List.getElem?_append_left (List.getElem?_eq_some_iff.mp hx).1]; exact hx
    have hs2 : (S1 ++ [Dat.lsa a ds])[k]? = some (.ins C fs) := by rw [List.getElem?_append_left hkl]; exact hs
    have f2 : Fr B0 H0 as0 Bk B1 H1 (as ++ [a]) := (f0.step e1).push (f0.evo.oldN hp.2)
    have e3 : Evo B1 H1 (as ++ [a]) B1 (upd H1 x (.ins C dx (putF f (.ref a) vs))) := Evo.setc (List.mem_of_getElem? hx2) hv (fun _ z => nomatch z)
    have c3 := c2.setc (o := .ins C dx (putF f (.ref a) vs)) hx2 (show CellO K B1 (.ins C dx _) (.ins C (putFD f (.adr a) fs)) from ⟨rfl, RepF.put (.adr a) rv⟩) (c2.lkput hx2 hs2 hv (.adr a))
    rw [List.set_append_left _ _ hkl] at c3
    exact ⟨.ref x, hv1, x, C, dx, vs, rfl, hv, cl, na, by rw [rv.length]; exact hl, m.nx _ _ B1 _ _ σ (f2.step e3) c3 ((g.mono e1.ex).grow) (q a)⟩
/-- what stands at a known address, the j-th changed thing -/
theorem ev_la (h : Ev K te env S (.d (.adr p)) S1) (hs : S1[j]? = some d) (hd : adrOf d = some p) : Ev K te env S (.c j) S1 := fun B H as σ c g Q q =>
  h B H as σ c g _ fun v B1 H1 c1 e1 r1 => q v B1 H1 c1 e1 (by
    cases r1
    exact ⟨p, c1.tb j d p hs hd, rfl⟩)
theorem Ok.forget (c : Ok K B H as S) (hs : S[j]? = some (.lsa p ds)) : Ok K B H as (S.set j (.lst ds)) where
  ex := c.ex
  len := by rw [List.length_set]; exact c.len
  cells := fun k a s h1 h2 => by
    by_cases e : j = k
    · subst e
      rw [List.getElem?_set_self (List.getElem?_eq_some_iff.mp hs).1] at h2
      cases h2
      obtain ⟨q1, q2⟩ := c.cells j a _ h1 hs
      obtain ⟨vs, hv, rv⟩ := q2.lsa
      exact ⟨q1, _, hv, rv⟩
    · rw [List.getElem?_set_ne e] at h2
      exact c.cells k a s h1 h2
  nd := c.nd
  lk := fun k a s o h1 h2 h3 => by
    by_cases e : j = k
    · subst e
      rw [List.getElem?_set_self (List.getElem?_eq_some_iff.mp hs).1] at h2
      cases h2
      exact fun _ _ _ _ z => nomatch z
    · rw [List.getElem?_set_ne e] at h2
      exact c.lk k a s o h1 h2 h3
  ntb := c.ntb
  tb := fun k d P h hd => by
    by_cases e : j = k
    · subst e
      rw [List.getElem?_set_self (List.getElem?_eq_some_iff.mp hs).1] at h
      cases h
      cases hd
    · rw [List.getElem?_set_ne e] at h
      exact c.tb k d P h hd
theorem Ok.recall (c : Ok K B H as S) (hs : S[j]? = some (.lst ds)) (hp : as[j]? = some p) : Ok K B H as (S.set j (.lsa p ds)) where
  ex := c.ex
  len := by rw [List.length_set]; exact c.len
  cells := fun k a s h1 h2 => by
    by_cases e : j = k
    · subst e
      rw [List.getElem?_set_self (List.getElem?_eq_some_iff.mp hs).1] at h2
      cases h2
      obtain ⟨q1, q2⟩ := c.cells j a _ h1 hs
      obtain ⟨vs, hv, rv⟩ := q2.lst
      exact ⟨q1, _, hv, rv⟩
    · rw [List.getElem?_set_ne e] at h2
      exact c.cells k a s h1 h2
  nd := c.nd
  lk := fun k a s o h1 h2 h3 => by
    by_cases e : j = k
    · subst e
      rw [List.getElem?_set_self (List.getElem?_eq_some_iff.mp hs).1] at h2
      cases h2
      exact fun _ _ _ _ z => nomatch z
    · rw [List.getElem?_set_ne e] at h2
      exact c.lk k a s o h1 h2 h3
  ntb := c.ntb
  tb := fun k d P h hd => by
    by_cases e : j = k
    · subst e
      rw [List.getElem?_set_self (List.getElem?_eq_some_iff.mp hs).1] at h
      cases h
      cases hd
      exact hp
    · rw [List.getElem?_set_ne e] at h
      exact c.tb k d P h hd
theorem set_back {S : List Dat} {d e : Dat} (hs : S[j]? = some d) : (S.set j e).set j d = S := by
  rw [List.set_set]
  obtain ⟨hl, q⟩ := List.getElem?_eq_some_iff.mp hs
  rw [← q]; exact List.set_getElem_self hl
/-- what holds of a list that is changed, where its address is known -/
theorem ev_forget (hs : S[j]? = some (.lsa p ds)) (h : Ev K te env (S.set j (.lst ds)) x S1) (hj : S1[j]? = some (.lst ds')) : Ev K te env S x (S1.set j (.lsa p ds')) := fun B H as σ c g Q q =>
  h B H as σ (c.forget hs) g _ fun v B1 H1 c1 e1 r1 => q v B1 H1 (c1.recall hj (c.tb j _ p hs rfl)) e1 r1
theorem sp_forget (hj : j < n) (hs : S[j]? = some (.lsa p ds)) (h : SP K n t env (S.set j (.lst ds)) { nx := fun env' T => ∃ ds', T[j]? = some (.lst ds') ∧ P.nx env' (T.set j (.lsa p ds')), rt := fun r T => ∃ ds', T[j]? = some (.lst ds') ∧ P.rt r (T.set j (.lsa p ds')), bk := fun env' T => ∃ ds', T[j]? = some (.lst ds') ∧ P.bk env' (T.set j (.lsa p ds')), ct := fun env' T => ∃ ds', T[j]? = some (.lst ds') ∧ P.ct env' (T.set j (.lsa p ds')) }) :
    SP K n t env S P := fun B0 H0 as0 Bk B H as σ hl0 f c g D m => by
  have hp : as[j]? = some p := c.tb j _ p hs rfl
  have h0 : as0[j]? = some p := by
    rw [← f.base, List.getElem?_take_of_lt (by omega)]; exact hp
  have at' : ∀ {as' : List Addr} {B' H'}, Fr B0 H0 as0 Bk B' H' as' → as'[j]? = some p := fun {as' B' H'} f' => by
    have := f'.base
    rw [← this, List.getElem?_take_of_lt (by omega)] at h0
    exact h0
  exact h B0 H0 as0 Bk B H as σ hl0 f (c.forget hs) g D ⟨fun env' T B' H' as' σ' f' c' g' ⟨ds', h1, h2⟩ => m.nx env' _ B' H' as' σ' f' (c'.recall h1 (at' f')) g' h2, fun v r T B' H' c' e' r1 ⟨ds', h1, h2⟩ => m.rt v r _ B' H' (c'.recall h1 h0) e' r1 h2,
    fun env' T B' H' as' σ' f' c' g' ⟨ds', h1, h2⟩ => m.bk env' _ B' H' as' σ' f' (c'.recall h1 (at' f')) g' h2, fun env' T B' H' as' σ' f' c' g' ⟨ds', h1, h2⟩ => m.ct env' _ B' H' as' σ' f' (c'.recall h1 (at' f')) g' h2, trivial⟩
/-! ### a def that hands new changed things to its caller -/
def SpC (K : PySem.W.Frag) (G : List Sl → List Dat → (Sl → List Dat → Prop) → Prop) : Sp := fun vs H Q _ => ∃ B as S ss post, Ok K B H as S ∧ RepSs K B as vs ss ∧ G ss S post ∧
  ∀ v r B' H' as' S', as'.take as.length = as → (∀ a ∈ as'.drop as.length, Nn H a) → Ok K B' H' as' S' → Evo B H as B' H' → RepS K B' as' v r → post r S' → Q v H'
theorem spc_len {G : List Sl → List Dat → (Sl → List Dat → Prop) → Prop} {k : Nat} (h : ∀ ss S post, G ss S post → ss.length = k) : ∀ vs H Q E, SpC K G vs H Q E → vs.length = k := fun vs H Q E q => by
  obtain ⟨B, as, S, ss, post, c, rs, g, _⟩ := q
  rw [rs.length]
  exact h ss S post g
def SPR (K : PySem.W.Frag) (n : Nat) (ts : TS) (env : Env1) (S : List Dat) (post : Sl → List Dat → Prop) : Prop :=
  ∀ B0 H0 as0 Bk B H as σ, as0.length = n → Fr B0 H0 as0 Bk B H as → Ok K B H as S → EnvR K B as σ env → ∀ D : Ends, (∀ v r B' H' as' S', Fr B0 H0 as0 Bk B' H' as' → Ok K B' H' as' S' → RepS K B' as' v r → post r S' → D.rt v H') →
    (∀ σ' B' H' as' S', Fr B0 H0 as0 Bk B' H' as' → Ok K B' H' as' S' → post (.d .non) S' → D.nx σ' H') → ts D σ H
theorem spr_seq {post : Sl → List Dat → Prop} {nx : Env1 → List Dat → Prop} (h : SP K n t env S { nx := nx }) (k : ∀ env' S', nx env' S' → SPR K n u env' S' post) : SPR K n (tSeq t u) env S post := fun B0 H0 as0 Bk B H as σ hl f c g D r1 r2 =>
  h B0 H0 as0 Bk B H as σ hl f c g { D with nx := u D } ⟨fun env' S' B' H' as' σ' f' c' g' p => k env' S' p B0 H0 as0 Bk B' H' as' σ' hl f' c' g' D r1 r2, fun _ _ _ _ _ _ _ _ p => p.elim, fun _ _ _ _ _ _ _ _ _ p => p.elim, fun _ _ _ _ _ _ _ _ _ p => p.elim, trivial⟩
theorem spr_ret {post : Sl → List Dat → Prop} (h : Ev K te env S x S1) (hp : post x S1) : SPR K n (tRet te) env S post := fun B0 H0 as0 Bk B H as σ hl f c g D r1 r2 =>
  h B H as σ c g _ fun v B1 H1 c1 e1 q1 => r1 v x B1 H1 as S1 (f.step e1) c1 q1 hp
theorem spr_end {post : Sl → List Dat → Prop} (h : SP K n t env S { nx := fun _ T => post (.d .non) T }) : SPR K n t env S post := fun B0 H0 as0 Bk B H as σ hl f c g D r1 r2 =>
  h B0 H0 as0 Bk B H as σ hl f c g D ⟨fun env' S' B' H' as' σ' f' c' g' p => r2 σ' B' H' as' S' f' c' p, fun _ _ _ _ _ _ _ _ p => p.elim, fun _ _ _ _ _ _ _ _ _ p => p.elim, fun _ _ _ _ _ _ _ _ _ p => p.elim, trivial⟩
theorem sp_bodyC {G : List Sl → List Dat → (Sl → List Dat → Prop) → Prop} {N : List Str} {vs : List V} {Q : VK} (h : SpC K G vs H Q E)
    (k : ∀ ss S post, G ss S post → SPR K S.length t (ss.map some ++ List.replicate (N.length - ss.length) none) S post) : t { nx := fun _ H' => Q .non H', rt := Q } (start N vs) H := by
  obtain ⟨B, as, S, ss, post, c, rs, g, q⟩ := h
  refine k ss S post g B H as B B H as _ c.len ⟨Ex.refl B, List.take_length, Evo.refl, fun a ha => by rw [List.drop_length] at ha; cases ha⟩ c (EnvR.start rs) _ (fun v r B' H' as' S' f' c' r1 hp => ?_) fun σ' B' H' as' S' f' c' hp => ?_
  · exact q v r B' H' as' S' f'.base f'.loc c' f'.evo r1 hp
  · exact q .non (.d .non) B' H' as' S' f'.base f'.loc c' f'.evo .non hp
theorem Fr.ext {as' : List Addr} (f : Fr B0 H0 as0 Bk B H as) (e : Evo B H as B' H') (h1 : as'.take as.length = as) (h2 : ∀ a ∈ as'.drop as.length, Nn H a) : Fr B0 H0 as0 Bk B' H' as' where
  kn := f.kn.trans e.ex
  base := by
    have := f.base
    rw [← h1, List.take_take, Nat.min_eq_left f.len] at this
    exact this
  evo := (f.step e).evo
  loc := fun a ha => by
    rw [← List.take_append_drop as.length as', h1, List.drop_append_of_le_length f.len] at ha
    rcases List.mem_append.mp ha with z | z
    · exact f.loc a z
    · exact f.evo.oldN (h2 a z)
theorem EnvR.ext {as' : List Addr} (g : EnvR K B as σ env) (h1 : as'.take as.length = as) : EnvR K B as' σ env := by
  rw [← List.take_append_drop as.length as', h1]
  exact g.grow
/-- x = f(..), f hands new changed things -/
theorem sp_setCallC {G : List Sl → List Dat → (Sl → List Dat → Prop) → Prop} {ss : List Sl} {post : Sl → List Dat → Prop} (h : EvA K tA env S ss S1) (hg : G ss S1 post) (q : ∀ r S2, post r S2 → SP K n u (env.set i (some r)) S2 P) :
    SP K n (tSeq (tAsg (tCall (SpC K G) [] E tA) (gName i)) u) env S P := fun B0 H0 as0 Bk B H as σ hl0 f0 c g D m =>
  h B H as σ c g _ fun vs B1 H1 c1 e1 r1 => ⟨B1, as, S1, ss, post, c1, by rw [List.append_nil]; exact r1, hg, fun v r B2 H2 as2 S2 h1 h2 c2 e2 r2 hp =>
    q r S2 hp B0 H0 as0 Bk B2 H2 as2 _ hl0 ((f0.step e1).ext e2 h1 h2) c2 ((((g.mono e1.ex).ext h1).mono e2.ex).set i r2) D m⟩
/-- x = C(..), an instance that will be changed, whose __init__ makes further things that will be changed -/
theorem sp_setMkC {C : Addr} {G : List Sl → List Dat → (Sl → List Dat → Prop) → Prop} {ss : List Sl} {post : Sl → List Dat → Prop} (h : EvA K tA env S ss S1) (hg : G (.c S1.length :: ss) (S1 ++ [.ins C []]) post) (hn : ∀ r S2, post r S2 → r = .d .non)
    (q : ∀ S2, post (.d .non) S2 → SP K n u (env.set i (some (.c S1.length))) S2 P) : SP K n (tSeq (tAsg (tMake C (SpC K G) [] E tA) (gName i)) u) env S P := fun B0 H0 as0 Bk B H as σ hl0 f0 c g D m =>
  h B H as σ c g _ fun vs B1 H1 c1 e1 r1 x dx hx hdx hne => by
    have hB := c1.Bnone hx
    have hxa := c1.fresh hx
    have hdB := c1.Bnone hdx
    have hda := c1.fresh hdx
    have c2 : Ok K B1 (upd (upd H1 dx (.own x)) x (.ins C dx [])) as S1 := (c1.other hdB hda).other hB hxa
    have e2 : Evo B1 H1 as B1 (upd (upd H1 dx (.own x)) x (.ins C dx [])) := (Evo.refl.other (.of hdx)).other (.of hx)
    have c3 : Ok K B1 (upd (upd H1 dx (.own x)) x (.ins C dx [])) (as ++ [x]) (S1 ++ [.ins C []]) := c2.push hB hxa (CellAt.ofI upd_same .nil) (fun _ _ _ _ _ _ e q _ => by cases e; cases q)
    have grow : ∀ {vs : List V} {ss : List Sl}, RepSs K B1 as vs ss → RepSs K B1 (as ++ [x]) vs ss := by
      intro vs ss h
      induction h with
      | nil => exact .nil
      | cons h _ ih => exact .cons h.grow ih
    have r3 : RepSs K B1 (as ++ [x]) (.ref x :: (vs ++ [])) (.c S1.length :: ss) := by
      refine .cons ⟨x, by rw [← c1.len]; simp, rfl⟩ ?_
      rw [List.append_nil]
      exact grow r1
    refine ⟨B1, as ++ [x], _, _, post, c3, r3, hg, fun v r B4 H4 as4 S4 h1 h2 c4 e4 r4 hp => ?_⟩
    have er := hn r S4 hp
    subst er
    refine ⟨by cases r4; rfl, ?_⟩
    have f3 : Fr B0 H0 as0 Bk B1 _ (as ++ [x]) := ((f0.step e1).step e2).push ((f0.step e1).evo.old hx)
    have hxl : as4[S1.length]? = some x := by
      have hl : S1.length < (as ++ [x]).length := by rw [List.length_append, c1.len]; simp
      rw [← List.take_append_drop (as ++ [x]).length as4, h1, List.getElem?_append_left hl, ← c1.len]
      simp
    exact q S4 hp B0 H0 as0 Bk B4 H4 as4 _ hl0 (f3.ext e4 h1 h2) c4 (((((g.mono e1.ex).grow).ext h1).mono e4.ex).set i ⟨x, hxl, rfl⟩) D m
/-- xs.append(e), xs[i] = e, of a list whose address is known -/
theorem ev_appendA (ho : Ev K to env S (.c k) S1) (h : Ev K te env S1 (.d d) S2) (h1 : LCell S1 k es) (hs : S2[k]? = some (.lsa p ds)) (hl : ds.length < sizeLine) : Ev K (tBM K "list" rAppend to (tCons te tNil)) env S (.d .non) (S2.set k (.lsa p (ds ++ [d]))) := fun B H as σ c g Q q =>
  ho B H as σ c g _ fun v B1 H1 c1 e1 r1 => by
    obtain ⟨a, ha, rfl⟩ := r1
    obtain ⟨_, ws, hw, rw'⟩ := c1.lcell ha h1
    refine ⟨.inl ⟨rfl, ws, Evl.sq_of hw⟩, h B1 H1 as σ c1 (g.mono e1.ex) _ fun v B2 H2 c2 e2 r2 => ?_⟩
    obtain ⟨vs, hv, rv⟩ := (c2.cells k a _ ha hs).2.lsa
    have hap : a = p := by
      have := c2.tb k _ p hs rfl
      rw [ha] at this
      exact Option.some.inj this
    refine ⟨a, vs, v, rfl, rfl, hv, by rw [rv.length]; exact hl, q .non B2 _ (c2.setc ha (show CellO K B2 (.lst _) (.lsa _ _) from rv.append (.cons r2 .nil)) (fun _ _ _ _ z => nomatch z) (fun P z => by rw [hap]; exact Option.some.inj z)) ((e1.trans e2).trans (Evo.setc (List.mem_of_getElem? ha) hv (fun _ z => nomatch z))) .non⟩
theorem sp_setitemA1 {iv : Int} (h : Ev K te env S (.d d) S1) (ho : Ev K to env S1 (.c k) S2) (hi : Ev K ti env S2 (.d (.int iv)) S3) (hs : S3[k]? = some (.lsa p ds)) (hj : ixN ds.length iv = some j) (q : P.nx env (S3.set k (.lsa p (ds.set j d)))) :
    SP K n (tAsg te (gSub to ti rSetL)) env S P := fun B0 H0 as0 Bk B H as σ hl f c g D m =>
  h B H as σ c g _ fun v B1 H1 c1 e1 r1 => ho B1 H1 as σ c1 (g.mono e1.ex) _ fun w B2 H2 c2 e2 r2 => hi B2 H2 as σ c2 (g.mono (e1.trans e2).ex) _ fun w3 B3 H3 c3 e3 r3 => by
    obtain ⟨a, ha, rfl⟩ := r2
    cases r3
    obtain ⟨vs, hv, rv⟩ := (c3.cells k a _ ha hs).2.lsa
    have hap : a = p := by
      have := c3.tb k _ p hs rfl
      rw [ha] at this
      exact Option.some.inj this
    have e03 := ((e1.trans e2).trans e3).trans (Evo.setc (o := .lst (vs.set j v)) (List.mem_of_getElem? ha) hv (fun _ z => nomatch z))
    exact ⟨a, vs, iv, j, rfl, rfl, hv, by rw [rv.length]; exact hj, m.nx _ _ B3 _ as σ (f.step e03) (c3.setc ha (show CellO K B3 (.lst _) (.lsa _ _) from Reps.set j (Rep.mono (e2.trans e3).ex r1) rv) (fun _ _ _ _ z => nomatch z) (fun P z => by rw [hap]; exact Option.some.inj z)) (g.mono e03.ex) q⟩
end
end RW

set_option Elab.async false
set_option linter.all false
set_option maxRecDepth 100000
set_option maxHeartbeats 4000000
namespace RW
open PySem PySem.Spec PyProof.Rows L2
open Evl (Ex)
/-! ### xs[i] += e -/
def rGetL (K : PySem.W.Frag) : V → V → Hp → VK → Prop := fun o i H Q => ∃ (p : Addr) (xs : List V) (j : Nat) (z : V), o = .ref p ∧ i = .int (j : Int) ∧ SqL K H p xs ∧ xs[j]? = some z ∧ Q z H
theorem get_listN {X : Cx} : PGet X (rGetL X.K) := by
  intro pins s σ H o i ov iv Q I ro ri h
  obtain ⟨p, xs, j, z, rfl, rfl, hq, he, q⟩ := h
  cases ro
  obtain ⟨t, rfl⟩ := ri
  obtain ⟨its, r, pl, hz⟩ := I.list hq
  obtain ⟨w, ew, rw'⟩ := r.get he
  have hl := r.length
  have hj : j < xs.length := (List.getElem?_eq_some_iff.mp he).1
  have hn := line63
  exact wpAny_getItem_list (x := w) pl.isList (Int.natCast_nonneg _) (by omega) (by simpa using ew) ⟨z, H, I, rw', q⟩
theorem ixN_of {m p : Nat} (h : p < m) : ixN m (p : Int) = some p := by
  unfold ixN
  simp
  omega
section
variable {K : PySem.W.Frag} {n : Nat} {te ta tb tc to ti tv : TE} {tA : TA} {env env' : Env1} {S S1 S2 S3 : List Dat} {x y z : Sl} {d e : Dat} {ds es ds' : List Dat} {P P' : Post} {t u : TS}
  {B B0 B1 B2 B' Bk H H0 H1 H2 H' : Hp} {as as0 as1 : List Addr} {D : Ends} {σ : L2.St} {i j k : Nat}
theorem sp_augL1 {fn : Int → Int → Int} {p q : Int} (ho : Ev K to env S (.c k) S) (hi : Ev K ti env S (.d (.int (j : Int))) S) (hs : S[k]? = some (.lst ds)) (hj : ds[j]? = some (.int p)) (h : Ev K te env S (.d (.int q)) S) (hq : P.nx env (S.set k (.lst (ds.set j (.int (fn p q)))))) :
    SP K n (tAugS to ti te (rGetL K) (ipI fn) rSetL) env S P := fun B0 H0 as0 Bk B H as σ hl f c g D m =>
  ho B H as σ c g _ fun v B1 H1 c1 e1 r1 => hi B1 H1 as σ c1 (g.mono e1.ex) _ fun w B2 H2 c2 e2 r2 => by
    obtain ⟨a, ha, rfl⟩ := r1
    cases r2
    obtain ⟨vs, hv, rv⟩ := (c2.cells k a _ ha hs).2.lst
    obtain ⟨z, hz, rz⟩ := rv.get hj
    cases rz
    refine ⟨a, vs, j, .int p, rfl, rfl, Evl.sq_of hv, hz, h B2 H2 as σ c2 (g.mono (e1.trans e2).ex) _ fun w3 B3 H3 c3 e3 r3 => ?_⟩
    cases r3
    obtain ⟨vs3, hv3, rv3⟩ := (c3.cells k a _ ha hs).2.lst
    have hjl : j < ds.length := (List.getElem?_eq_some_iff.mp hj).1
    have e03 := ((e1.trans e2).trans e3).trans (Evo.setc (o := .lst (vs3.set j (.int (fn p q)))) (List.mem_of_getElem? ha) hv3 (fun _ z => nomatch z))
    exact ⟨p, q, rfl, rfl, a, vs3, (j : Int), j, rfl, rfl, hv3, by rw [rv3.length]; exact ixN_of hjl, m.nx _ _ B3 _ as σ (f.step e03) (c3.setc ha (show CellO K B3 (.lst _) (.lst _) from Reps.set j (.int _) rv3)) (g.mono e03.ex) hq⟩
end
end RW

set_option Elab.async false
set_option linter.all false
set_option maxRecDepth 100000
set_option maxHeartbeats 4000000
namespace RW
open PySem PySem.Spec PyProof.Rows L2
open Evl (Ex)
/-! ### a, b, c, .. = what is a list or a tuple -/
def gNs : List Nat → TGs
  | [] => gNil
  | i :: r => gCons (gName i) (gNs r)
def setN (env : Env1) : List Nat → List Dat → Env1
  | i :: is, d :: ds => setN (env.set i (some (.d d))) is ds
  | _, _ => env
def gSeqT (K : PySem.W.Frag) (n : Nat) (t : TGs) : TG := fun v σ H Q => gTup K n t v σ H Q ∨ gLst K n t v σ H Q
theorem pg_seqT {X : Cx} {es : List Expr} {k n : Nat} {t : TGs} {pos : Pos} (hc : X.calm = true) (h : PGs X es t) (hn : (assignEach es X.env).length = n := by rfl) (hst : (assignEach es X.env).findIdx? (·.1) = none := by rfl) : PG X (.Tuple es k pos) (gSeqT X.K n t) := by
  refine ⟨fun pins s σ H v u Q I r hw => ?_⟩
  rcases hw with hw | hw
  · exact (pg_tup hc h hn hst).run pins s σ H v u Q I r hw
  · exact (pg_lst hc h hn hst).run pins s σ H v u Q I r hw
section
variable {K : PySem.W.Frag} {B H : Hp} {as : List Addr} {env : Env1} {σ : L2.St} {S : List Dat} {n : Nat}
theorem tgs_names : ∀ {is : List Nat} {ds : List Dat} {vs : List V} {σ : L2.St} {env : Env1} {Q : L2.St → Hp → Prop}, Reps K B vs ds → is.length = ds.length → EnvR K B as σ env → (∀ σ', EnvR K B as σ' (setN env is ds) → (∀ ws : List Nat, (∀ i ∈ is, i ∈ ws) → L2.wipe σ' ws = L2.wipe σ ws) → Q σ' H) → gNs is vs σ H Q
  | [], _, _, _, _, _, .nil, _, g, q => ⟨rfl, q _ g fun _ _ => rfl⟩
  | i :: is, d :: ds, v :: vs, σ, env, Q, .cons r rr, hl, g, q => by
    refine ⟨v, vs, rfl, ?_⟩
    show gNs is vs (σ.set i (some v)) H Q
    refine tgs_names rr (by simpa using hl) (EnvR.set (s := .d d) i g r) fun σ' g' hw => q σ' g' fun ws h => ?_
    rw [hw ws fun j hj => h j (List.mem_cons_of_mem _ hj), wipe_set (h i List.mem_cons_self)]
theorem tg_tupN {is : List Nat} {ds : List Dat} (hl : is.length = ds.length) (hn : n = ds.length) : TgD K (gTup K n (gNs is)) (.tup ds) is (fun env => setN env is ds) := fun B H as S σ env v c g r Q q => by
  cases r with
  | tup h r => exact ⟨_, _, rfl, Evl.ex_t c.ex h, by rw [r.length, hn], tgs_names r hl g q⟩
theorem tg_seqT {is : List Nat} {ds : List Dat} (hl : is.length = ds.length) (hn : n = ds.length) : TgD K (gSeqT K n (gNs is)) (.tup ds) is (fun env => setN env is ds) := fun B H as S σ env v c g r Q q => .inl (tg_tupN hl hn B H as S σ env v c g r Q q)
theorem tg_seqL {is : List Nat} {ds : List Dat} (hl : is.length = ds.length) (hn : n = ds.length) : TgD K (gSeqT K n (gNs is)) (.lst ds) is (fun env => setN env is ds) := fun B H as S σ env v c g r Q q => by
  cases r with
  | lst h r => exact .inr ⟨_, _, rfl, .inl (.inl (c.ex _ _ h)), by rw [r.length, hn], tgs_names r hl g q⟩
/-- at, (point, others) -/
theorem tg_nest {j k l : Nat} {d e f : Dat} : TgD K (gTup K 2 (gCons (gName j) (gCons (gTup K 2 (gCons (gName k) (gCons (gName l) gNil))) gNil))) (.tup [d, .tup [e, f]]) [j, k, l] (fun env => ((env.set j (some (.d d))).set k (some (.d e))).set l (some (.d f))) := fun B H as S σ env v c g r Q q => by
  cases r with
  | tup h r =>
    cases r with
    | cons r1 r =>
      cases r with
      | cons r2 r =>
        cases r
        refine ⟨_, _, rfl, Evl.ex_t c.ex h, rfl, _, _, rfl, ?_⟩
        refine ⟨_, _, rfl, ?_⟩
        refine tg_pair B H as S (σ.set j (some _)) (env.set j (some (.d d))) _ c (EnvR.set (s := .d d) j g r1) r2 _ fun σ' g' hw => ⟨rfl, q σ' g' fun ws h => ?_⟩
        rw [hw ws fun i hi => h i (by simp at hi ⊢; omega), wipe_set (h j (by simp))]
end
theorem pg_seqTK (K : PySem.W.Frag) {X : Cx} {es : List Expr} {k n : Nat} {t : TGs} {pos : Pos} (hc : X.calm = true) (h : PGs X es t) (hK : X.K = K := by rfl) (hn : (assignEach es X.env).length = n := by rfl) (hst : (assignEach es X.env).findIdx? (·.1) = none := by rfl) : PG X (.Tuple es k pos) (gSeqT K n t) := by
  subst hK
  exact pg_seqT hc h hn hst
end RW

set_option Elab.async false
set_option linter.all false
set_option maxRecDepth 100000
set_option maxHeartbeats 4000000
namespace RW
open PySem PySem.Spec PyProof.Rows L2
open Evl (Ex)
def mxL : List Int → Int
  | [] => 0
  | x :: r => if r = [] then x else max x (mxL r)
theorem mxL_in : ∀ {ns : List Int}, ns ≠ [] → mxL ns ∈ ns
  | [], h => absurd rfl h
  | x :: r, _ => by
    unfold mxL
    by_cases h : r = []
    · rw [if_pos h]; exact List.mem_cons_self
    · rw [if_neg h]
      have := mxL_in h
      rcases Int.le_total x (mxL r) with k | k
      · rw [Int.max_eq_right k]; exact List.mem_cons_of_mem _ this
      · rw [Int.max_eq_left k]; exact List.mem_cons_self
theorem mxL_ge : ∀ {ns : List Int} {y : Int}, y ∈ ns → y ≤ mxL ns
  | x :: r, y, hy => by
    unfold mxL
    by_cases h : r = []
    · subst h
      rw [if_pos rfl, List.mem_singleton.mp hy]; exact Int.le_refl _
    · rw [if_neg h]
      rcases List.mem_cons.mp hy with rfl | hy
      · exact Int.le_max_left _ _
      · exact Int.le_trans (mxL_ge hy) (Int.le_max_right _ _)
def mnL (ns : List Int) : Int := - mxL (ns.map fun x => -x)
theorem mnL_in {ns : List Int} (h : ns ≠ []) : mnL ns ∈ ns := by
  have := mxL_in (ns := ns.map fun x => -x) (by simpa using h)
  obtain ⟨x, hx, e⟩ := List.mem_map.mp this
  have e2 : mnL ns = x := by unfold mnL; rw [← e]; omega
  rw [e2]; exact hx
theorem mnL_le {ns : List Int} {y : Int} (hy : y ∈ ns) : mnL ns ≤ y := by
  have := mxL_ge (ns := ns.map fun x => -x) (List.mem_map.mpr ⟨y, hy, rfl⟩)
  unfold mnL; omega
section
variable {K : PySem.W.Frag} {S : List Dat} {x : Sl} {ns : List Int}
theorem cd_maxL (h : SeqL S x (ns.map Dat.int)) (hne : ns ≠ []) : CallD K (rMax K) [x] S (.int (mxL ns)) S := fun B H as vs c r Q q => by
  cases r with
  | cons r1 rr =>
    cases rr
    obtain ⟨a, ws, rfl, hw, rv⟩ := h.read c r1
    have := rv.ints
    subst this
    refine ⟨a, ns, rfl, Evl.sq_of hw, List.length_pos_iff.mpr hne, fun m hm hy => ?_⟩
    have e : m = mxL ns := Int.le_antisymm (mxL_ge hm) (hy _ (mxL_in hne))
    rw [e]
    exact q _ B H c Evo.refl (.int _)
theorem cd_minL (h : SeqL S x (ns.map Dat.int)) (hne : ns ≠ []) : CallD K (rMin K) [x] S (.int (mnL ns)) S := fun B H as vs c r Q q => by
  cases r with
  | cons r1 rr =>
    cases rr
    obtain ⟨a, ws, rfl, hw, rv⟩ := h.read c r1
    have := rv.ints
    subst this
    refine ⟨a, ns, rfl, Evl.sq_of hw, List.length_pos_iff.mpr hne, fun m hm hy => ?_⟩
    have e : m = mnL ns := Int.le_antisymm (hy _ (mnL_in hne)) (mnL_le hm)
    rw [e]
    exact q _ B H c Evo.refl (.int _)
/-- a >> b -/
theorem o_shrI {i j : Int} (h : 0 ≤ j) : Op2 K (rI (fun _ j => 0 ≤ j) fun i j => V.int (i / 2 ^ j.toNat)) (.d (.int i)) (.d (.int j)) S (.int (i / 2 ^ j.toNat)) := op2_int h fun B => .int _
end
/-! ### sum(xs) of a list or a tuple -/
def rSumA (K : PySem.W.Frag) : List V → Hp → VK → Prop := fun vs H Q => ∃ (a : Addr) (ns : List Int), vs = [V.ref a] ∧ (SqL K H a (ns.map V.int) ∨ SqT K H a (ns.map V.int)) ∧ Q (.int ns.sum) H
theorem cr_sumAK (K : PySem.W.Frag) {X : Cx} (hc : X.calm = true := by rfl) (hK : X.K = K := by rfl) : CallR X (.builtin "sum") (rSumA K) := by
  subst hK
  intro pins s σ H vs us Q I r h
  obtain ⟨a, ns, rfl, hs | hs, q⟩ := h
  · exact cr_sum hc pins s σ H _ us Q I r ⟨a, ns, rfl, hs, q⟩
  · obtain ⟨its, rv, hl, _⟩ := I.tuple hs
    rw [Vals.ref1 r]
    have hi := rv.ints
    obtain ⟨xs, e⟩ := hi.allInts.items
    have hn : numsOf (intItems xs).toList = ns := by rw [← e]; exact hi.numsOf
    rw [nums_intItems] at hn
    have hl2 : s.heap.IsTuple a its.toArray := hl
    rw [e] at hl2
    refine PySem.W.ktm_sumG (I.ok.hd hc) hl2 fun h' tk t' hk => ?_
    rw [preSum_eq, List.take_of_length_le (by simp), hn]
    exact ⟨.int _, H, I.kept hk, ⟨_, rfl⟩, q⟩
section
variable {K : PySem.W.Frag} {S : List Dat} {x : Sl} {ns : List Int}
theorem cd_sumA (h : Seq S x (ns.map Dat.int)) : CallD K (rSumA K) [x] S (.int ns.sum) S := fun B H as vs c r Q q => by
  cases r with
  | cons r1 rr =>
    cases rr
    obtain ⟨a, k, ws, rfl, hw, rv⟩ := h.read c r1
    have := rv.ints
    subst this
    exact ⟨a, ns, rfl, sq_or hw, q _ B H c Evo.refl (.int _)⟩
end
theorem pe_fldK (K : PySem.W.Frag) {X : Cx} {o : Expr} {f : Str} {p : Pos} {ta : TE} (ho : PE X o ta) (h : attributeBase o f X.env (eval o X.env) = eval o X.env := by rfl) (hK : X.K = K := by rfl) : PE X (.Attribute o f p) (tFld K ta f) := by
  subst hK
  exact pe_fld ho h
end RW

set_option Elab.async false
set_option linter.all false
set_option maxRecDepth 100000
set_option maxHeartbeats 4000000
namespace RW
open PySem PySem.Spec PyProof.Rows L2
open Evl (Ex)
/-! ### dicts with numbers (and texts) as keys, with what they hold -/
section
variable {κ : Type} [DecidableEq κ]
def valD (kvs : List (κ × Dat)) (k : κ) : Option Dat := (kvs.find? fun kv => decide (kv.1 = k)).map (·.2)
def putD (kvs : List (κ × Dat)) (k : κ) (v : Dat) : List (κ × Dat) :=
  if (kvs.any fun kv => decide (kv.1 = k)) = true then kvs.map (fun kv => if kv.1 = k then (kv.1, v) else kv) else kvs ++ [(k, v)]
end
section
variable {K : PySem.W.Frag} {n : Nat} {te ta tb tc to ti tv : TE} {tA : TA} {env env' : Env1} {S S1 S2 S3 : List Dat} {x y z : Sl} {d e : Dat} {ds es ds' : List Dat} {P P' : Post} {t u : TS}
  {B B0 B1 B2 B' Bk H H0 H1 H2 H' : Hp} {as as0 as1 : List Addr} {D : Ends} {σ : L2.St} {i j k : Nat} {p : Addr} {E : XK} {ks : List (L2.Key × Dat)} {kts : List (List Int × Dat)}
theorem CellAt.dkd {a : Addr} (h : CellAt K B H a (.dkd ks)) : ∃ kvs, H a = some (.dK kvs) ∧ kvs.map (·.1) = ks.map (·.1) ∧ Reps K B (kvs.map (·.2)) (ks.map (·.2)) := by
  obtain ⟨o, h1, h2⟩ := h
  cases o <;> first
    | exact h2.elim
    | exact ⟨_, h1, h2⟩
theorem CellAt.dtd {a : Addr} (h : CellAt K B H a (.dtd kts)) : ∃ kvs, H a = some (.dT kvs) ∧ kvs.map (·.1) = (kts.map fun k => k.1.map Sum.inl) ∧ Reps K B (kvs.map (·.2)) (kts.map (·.2)) := by
  obtain ⟨o, h1, h2⟩ := h
  cases o <;> first
    | exact h2.elim
    | exact ⟨_, h1, h2⟩
theorem val_reps {κ ι : Type} [DecidableEq κ] [DecidableEq ι] {f : ι → κ} (hf : ∀ a b, f a = f b → a = b) {k : ι} : ∀ {kvs : List (κ × V)} {ks : List (ι × Dat)}, kvs.map (·.1) = (ks.map fun p => f p.1) → Reps K B (kvs.map (·.2)) (ks.map (·.2)) → ∀ {d : Dat}, valD ks k = some d → ∃ v, valV kvs (f k) = some v ∧ Rep K B v d
  | [], [], _, _, _, h => by cases h
  | (a, v) :: kvs, (b, e) :: ks, h, r, d, hv => by
    simp only [List.map_cons, List.cons.injEq] at h
    rw [List.map_cons, List.map_cons] at r
    cases r with
    | cons r1 rr =>
      obtain ⟨rfl, h2⟩ := h
      by_cases q : b = k
      · subst q
        have : valD ((b, e) :: ks) b = some e := by unfold valD; simp
        rw [this] at hv; cases hv
        exact ⟨v, valV_pos rfl, r1⟩
      · have q2 : ¬ f b = f k := fun z => q (hf _ _ z)
        have : valD ((b, e) :: ks) k = valD ks k := by unfold valD; simp [List.find?_cons, q]
        rw [this] at hv
        rw [valV_neg (p := (f b, v)) q2]
        exact val_reps hf h2 rr hv
  | [], _ :: _, h, _, _, _ => by simp at h
  | _ :: _, [], h, _, _, _ => by simp at h
theorem any_reps {κ ι : Type} [DecidableEq κ] [DecidableEq ι] {f : ι → κ} (hf : ∀ a b, f a = f b → a = b) {k : ι} : ∀ {kvs : List (κ × V)} {ks : List (ι × Dat)}, kvs.map (·.1) = (ks.map fun p => f p.1) → (kvs.any fun kv => decide (kv.1 = f k)) = ks.any fun kv => decide (kv.1 = k)
  | [], [], _ => rfl
  | (a, v) :: kvs, (b, e) :: ks, h => by
    simp only [List.map_cons, List.cons.injEq] at h
    obtain ⟨rfl, h2⟩ := h
    rw [List.any_cons, List.any_cons, any_reps hf h2]
    congr 1
    exact decide_eq_decide.mpr ⟨fun z => hf _ _ z, fun z => by rw [show b = k from z]⟩
  | [], _ :: _, h => by simp at h
  | _ :: _, [], h => by simp at h
theorem map_reps {κ ι : Type} [DecidableEq κ] [DecidableEq ι] {f : ι → κ} (hf : ∀ a b, f a = f b → a = b) {k : ι} {v : V} {d : Dat} (r : Rep K B v d) : ∀ {kvs : List (κ × V)} {ks : List (ι × Dat)}, kvs.map (·.1) = (ks.map fun p => f p.1) → Reps K B (kvs.map (·.2)) (ks.map (·.2)) →
    (kvs.map fun kv => if kv.1 = f k then (kv.1, v) else kv).map (·.1) = ((ks.map fun kv => if kv.1 = k then (kv.1, d) else kv).map fun p => f p.1) ∧ Reps K B ((kvs.map fun kv => if kv.1 = f k then (kv.1, v) else kv).map (·.2)) ((ks.map fun kv => if kv.1 = k then (kv.1, d) else kv).map (·.2))
  | [], [], _, _ => ⟨rfl, .nil⟩
  | (a, v') :: kvs, (b, e) :: ks, h, rr => by
    simp only [List.map_cons, List.cons.injEq] at h
    rw [List.map_cons, List.map_cons] at rr
    obtain ⟨rfl, h2⟩ := h
    cases rr with
    | cons r1 rr =>
      obtain ⟨i1, i2⟩ := map_reps hf (k := k) r h2 rr
      by_cases q : b = k
      · subst q
        refine ⟨?_, ?_⟩
        · simp only [List.map_cons, if_pos]; rw [i1]
        · simp only [List.map_cons, if_pos]; exact .cons r i2
      · have q2 : ¬ f b = f k := fun z => q (hf _ _ z)
        refine ⟨?_, ?_⟩
        · simp only [List.map_cons, if_neg q, if_neg q2]; rw [i1]
        · simp only [List.map_cons, if_neg q, if_neg q2]; exact .cons r1 i2
  | [], _ :: _, h, _ => by simp at h
  | _ :: _, [], h, _ => by simp at h
theorem put_reps {κ ι : Type} [DecidableEq κ] [DecidableEq ι] {f : ι → κ} (hf : ∀ a b, f a = f b → a = b) {k : ι} {v : V} {d : Dat} (r : Rep K B v d) {kvs : List (κ × V)} {ks : List (ι × Dat)} (h : kvs.map (·.1) = (ks.map fun p => f p.1)) (rr : Reps K B (kvs.map (·.2)) (ks.map (·.2))) :
    (putK kvs (f k) v).map (·.1) = ((putD ks k d).map fun p => f p.1) ∧ Reps K B ((putK kvs (f k) v).map (·.2)) ((putD ks k d).map (·.2)) := by
  unfold putK putD
  rw [any_reps hf h]
  split
  · exact map_reps hf r h rr
  · refine ⟨?_, ?_⟩
    · rw [List.map_append, List.map_append, h]; rfl
    · rw [List.map_append, List.map_append]; exact rr.append (.cons r .nil)
theorem len_reps {κ ι : Type} {f : ι → κ} {kvs : List (κ × V)} {ks : List (ι × Dat)} (h : kvs.map (·.1) = (ks.map fun p => f p.1)) : kvs.length = ks.length := by
  have := congrArg List.length h
  rwa [List.length_map, List.length_map] at this
/-- a, b = {}, e: a is a new dict -/
theorem sp_parDK (hv : Ev K tb env S y S1) (q : SP K n u ((env.set j (some (.c S1.length))).set k (some y)) (S1 ++ [.dkd []]) P) :
    SP K n (tSeq (tPar j k (tCons tDNewK (tCons tb tNil))) u) env S P := fun B0 H0 as0 Bk B H as σ hl f c g D m => fun p hp => by
  have hB := c.Bnone hp
  have hpa := c.fresh hp
  have c2 : Ok K B (upd H p (.dK [])) as S := c.other hB hpa
  have e2 : Evo B H as B (upd H p (.dK [])) := Evo.refl.other (.of hp)
  refine hv B _ as σ c2 (g.mono e2.ex) _ fun w B2 H2 c3 e3 r3 => ?_
  obtain ⟨k1, k2⟩ := e3.kept hpa upd_same hB
  have e03 := e2.trans e3
  exact ⟨_, _, rfl, q B0 H0 as0 Bk _ _ (as ++ [p]) _ hl ((f.step e03).push (f.evo.old hp)) (c3.push k2 hpa ⟨_, k1, rfl, .nil⟩) (((g.mono e03.ex).grow.set (s := .c S1.length) j ⟨p, by rw [← c3.len]; simp, rfl⟩).set k r3.grow) D m⟩
/-- x = {} -/
theorem sp_setDK (q : SP K n u (env.set i (some (.c S.length))) (S ++ [.dkd []]) P) : SP K n (tSeq (tAsg tDNewK (gName i)) u) env S P := fun B0 H0 as0 Bk B H as σ hl f c g D m => fun p hp => by
  have hB := c.Bnone hp
  have hpa := c.fresh hp
  have c2 : Ok K B (upd H p (.dK [])) as S := c.other hB hpa
  have e2 : Evo B H as B (upd H p (.dK [])) := Evo.refl.other (.of hp)
  refine q B0 H0 as0 Bk B _ (as ++ [p]) _ hl ((f.step e2).push (f.evo.old hp)) (c2.push hB hpa ⟨_, upd_same, rfl, .nil⟩) ((g.grow).set i ⟨p, by rw [← c.len]; simp, rfl⟩) D m
theorem key_inj : ∀ a b : L2.Key, id a = id b → a = b := fun _ _ h => h
theorem rep_key {v : V} {iv : Int} (h : Rep K B v (.int iv)) : v = kV (.inl iv) := by cases h; rfl
/-- d[i], i a number -/
theorem ev_dget {iv : Int} (h : Ev K ta env S (.c k) S1) (hi : Ev K ti env S1 (.d (.int iv)) S2) (hs : S2[k]? = some (.dkd ks)) (hv : valD ks (.inl iv) = some d) : Ev K (tDGet ta ti) env S (.d d) S2 := fun B H as σ c g Q q =>
  h B H as σ c g _ fun v B1 H1 c1 e1 r1 => hi B1 H1 as σ c1 (g.mono e1.ex) _ fun w B2 H2 c2 e2 r2 => by
    obtain ⟨p, hp, rfl⟩ := r1
    obtain ⟨kvs, hk, h1, h2⟩ := (c2.cells k p _ hp hs).2.dkd
    obtain ⟨v, hv1, hv2⟩ := val_reps (f := id) key_inj (by simpa using h1) h2 hv
    have hw := rep_key r2
    subst hw
    exact ⟨p, v, rfl, by have := DGet.k (k := .inl iv) hk; rw [show valV kvs (Sum.inl iv) = some v from hv1] at this; exact this, q v B2 H2 c2 (e1.trans e2) hv2⟩
/-- d[i] = e, i a number -/
theorem sp_dput {iv : Int} (h : Ev K te env S (.d d) S1) (ho : Ev K to env S1 (.c k) S2) (hi : Ev K ti env S2 (.d (.int iv)) S3) (hs : S3[k]? = some (.dkd ks)) (hl : ks.length < sizeLine) (q : SP K n u env (S3.set k (.dkd (putD ks (.inl iv) d))) P) :
    SP K n (tSeq (tAsg te (gSub to ti rSetD)) u) env S P := fun B0 H0 as0 Bk B H as σ hl0 f0 c g D m =>
  h B H as σ c g _ fun v B1 H1 c1 e1 r1 => ho B1 H1 as σ c1 (g.mono e1.ex) _ fun w B2 H2 c2 e2 r2 => hi B2 H2 as σ c2 (g.mono (e1.trans e2).ex) _ fun l B3 H3 c3 e3 r3 => by
    obtain ⟨p, hp, rfl⟩ := r2
    have hw := rep_key r3
    subst hw
    obtain ⟨kvs, hk, h1, h2⟩ := (c3.cells k p _ hp hs).2.dkd
    have h1' : kvs.map (·.1) = ks.map fun p => id p.1 := by simpa using h1
    obtain ⟨i1, i2⟩ := put_reps (f := id) key_inj (k := .inl iv) (Rep.mono (e2.trans e3).ex r1) h1' h2
    have e04 := ((e1.trans e2).trans e3).trans (Evo.setc (o := .dK (putK kvs (.inl iv) v)) (List.mem_of_getElem? hp) hk (fun _ z => nomatch z))
    exact ⟨p, _, rfl, .k hk (by rw [len_reps h1']; exact hl), q B0 H0 as0 Bk _ _ as σ hl0 (f0.step e04) (c3.setc hp (show CellO K _ (.dK _) (.dkd _) from ⟨by simpa using i1, i2⟩)) (g.mono e04.ex) D m⟩
theorem sp_dput1 {iv : Int} (h : Ev K te env S (.d d) S1) (ho : Ev K to env S1 (.c k) S2) (hi : Ev K ti env S2 (.d (.int iv)) S3) (hs : S3[k]? = some (.dkd ks)) (hl : ks.length < sizeLine) (q : P.nx env (S3.set k (.dkd (putD ks (.inl iv) d)))) :
    SP K n (tAsg te (gSub to ti rSetD)) env S P := fun B0 H0 as0 Bk B H as σ hl0 f0 c g D m =>
  h B H as σ c g _ fun v B1 H1 c1 e1 r1 => ho B1 H1 as σ c1 (g.mono e1.ex) _ fun w B2 H2 c2 e2 r2 => hi B2 H2 as σ c2 (g.mono (e1.trans e2).ex) _ fun l B3 H3 c3 e3 r3 => by
    obtain ⟨p, hp, rfl⟩ := r2
    have hw := rep_key r3
    subst hw
    obtain ⟨kvs, hk, h1, h2⟩ := (c3.cells k p _ hp hs).2.dkd
    have h1' : kvs.map (·.1) = ks.map fun p => id p.1 := by simpa using h1
    obtain ⟨i1, i2⟩ := put_reps (f := id) key_inj (k := .inl iv) (Rep.mono (e2.trans e3).ex r1) h1' h2
    have e04 := ((e1.trans e2).trans e3).trans (Evo.setc (o := .dK (putK kvs (.inl iv) v)) (List.mem_of_getElem? hp) hk (fun _ z => nomatch z))
    exact ⟨p, _, rfl, .k hk (by rw [len_reps h1']; exact hl), m.nx _ _ _ _ as σ (f0.step e04) (c3.setc hp (show CellO K _ (.dK _) (.dkd _) from ⟨by simpa using i1, i2⟩)) (g.mono e04.ex) q⟩
end
end RW

set_option Elab.async false
set_option linter.all false
set_option maxRecDepth 100000
set_option maxHeartbeats 4000000
namespace RW
open PySem PySem.Spec PyProof.Rows L2
open Evl (Ex)
/-! ### any, all of lists of data -/
def rAnyD (K : PySem.W.Frag) : List V → Hp → VK → Prop := fun vs H Q => ∃ (a : Addr) (ds : List PyData), vs = [V.ref a] ∧ Dp K H (.ref a) (.list ds) ∧ PyData.plainAll ds = true ∧ (∀ x ∈ ds, x.fits63) ∧ Q (.bl (ds.any PyData.truthy)) H
theorem cr_anyD {X : Cx} (K : PySem.W.Frag) (hc : X.calm = true) (hK : X.K = K := by rfl) : CallR X (.builtin "any") (rAnyD K) := by
  subst hK
  intro pins s σ H vs us Q I r h
  obtain ⟨a, ds, rfl, hd, hp, hf, q⟩ := h
  obtain ⟨as, r1⟩ := Dp.reads I (.list ds) (.ref a) (.ref a) hd rfl
  rw [Vals.ref1 r]
  cases r1 with
  | list h1 h2 h3 h4 =>
    exact PySem.W.any_list_data (I.ok.hd hc) ⟨_, h1, h2, _, h3⟩ h4 hp hf fun h' tk hk => ⟨.bl _, H, I.kept hk, rfl, q⟩
section
variable {K : PySem.W.Frag} {S : List Dat} {x : Sl} {ds : List Dat}
/-- any([xs, ..]), the items tuples of data -/
theorem plain_all : ∀ {ds : List Dat}, (∀ d ∈ ds, (py d).plain = true) → PyData.plainAll (pyAll ds) = true
  | [], _ => rfl
  | d :: ds, h => by
    show ((py d).plain && PyData.plainAll (pyAll ds)) = true
    rw [h d List.mem_cons_self, plain_all fun d hd => h d (List.mem_cons_of_mem _ hd)]; rfl
theorem pl_plain {m : Nat} {d : Dat} (h : Pl m d) : (py d).plain = true := by
  induction h with
  | non => rfl
  | bl b => rfl
  | int i => rfl
  | str h => rfl
  | tup h ih => exact plain_all ih
  | lst h ih => exact plain_all ih
theorem cd_anyT {m : Nat} {tss : List (List Dat)} (h : PlS S x m (.lst (tss.map Dat.tup))) (hf : ∀ t ∈ tss, t.length < 2 ^ 62) : CallD K (rAnyD K) [x] S (.bl (tss.any fun t => !t.isEmpty)) S := fun B H as vs c r Q q => by
  cases r with
  | cons r1 rr =>
    cases rr
    have hd := h.dp c r1
    have hl := pl_plain h.1
    obtain ⟨a, ha⟩ : ∃ a, ‹V› = .ref a := by
      rcases h.2 with rfl | ⟨k, ds, rfl, hds, hk⟩
      · cases r1; exact ⟨_, rfl⟩
      · obtain ⟨a, _, e⟩ := r1; exact ⟨a, e⟩
    subst ha
    have key : ∀ L : List (List Dat), (pyAll (L.map Dat.tup)).any PyData.truthy = L.any fun t => !t.isEmpty := fun L => by
      induction L with
      | nil => rfl
      | cons t L ih =>
        show (PyData.truthy (.tuple (pyAll t)) || (pyAll (L.map Dat.tup)).any PyData.truthy) = _
        rw [ih, List.any_cons]
        congr 1
        cases t <;> rfl
    have fit : ∀ L : List (List Dat), (∀ t ∈ L, t.length < 2 ^ 62) → ∀ x ∈ pyAll (L.map Dat.tup), x.fits63 := fun L => by
      induction L with
      | nil => intro _ x hx; cases hx
      | cons t L ih =>
        intro hL x hx
        rcases List.mem_cons.mp (show x ∈ PyData.tuple (pyAll t) :: pyAll (L.map Dat.tup) from hx) with rfl | hx
        · show ((pyAll t).length : Int) < 2 ^ 63
          have e : (pyAll t).length = t.length := by
            clear hL ih hx
            induction t with
            | nil => rfl
            | cons y t ih => show (pyAll t).length + 1 = _; rw [ih]; rfl
          have := hL t List.mem_cons_self
          omega
        · exact ih (fun t ht => hL t (List.mem_cons_of_mem _ ht)) x hx
    refine ⟨a, pyAll (tss.map Dat.tup), rfl, hd, hl, fit tss hf, ?_⟩
    rw [key tss]
    exact q _ B H c Evo.refl (.bl _)
end
end RW

set_option Elab.async false
set_option linter.all false
set_option maxRecDepth 100000
set_option maxHeartbeats 4000000
namespace RW
open PySem PySem.Spec PyProof.Rows L2
open Evl (Ex)
/-! ### a def whose result is known by what holds of it -/
def SpE (K : PySem.W.Frag) (G : List Sl → List Dat → (Dat → List Dat → Prop) → Prop) : Sp := fun vs H Q _ => ∃ B as S ss post, Ok K B H as S ∧ RepSs K B as vs ss ∧ G ss S post ∧
  ∀ v r B' H' S', Ok K B' H' as S' → Evo B H as B' H' → Rep K B' v r → post r S' → Q v H'
def EvE (K : PySem.W.Frag) (te : TE) (env : Env1) (S : List Dat) (post : Sl → List Dat → Prop) : Prop :=
  ∀ B H as σ, Ok K B H as S → EnvR K B as σ env → ∀ Q : VK, (∀ v r B' H' S', Ok K B' H' as S' → Evo B H as B' H' → RepS K B' as v r → post r S' → Q v H') → te σ H Q
section
variable {K : PySem.W.Frag} {n : Nat} {te ta tb tc to ti tv : TE} {tA : TA} {env env' : Env1} {S S1 S2 S3 : List Dat} {x y z : Sl} {d e : Dat} {ds es ds' : List Dat} {P P' : Post} {t u : TS}
  {B B0 B1 B2 B' Bk H H0 H1 H2 H' : Hp} {as as0 as1 : List Addr} {D : Ends} {σ : L2.St} {i j k : Nat} {p : Addr} {E : XK}
theorem spe_len {G : List Sl → List Dat → (Dat → List Dat → Prop) → Prop} {k : Nat} (h : ∀ ss S post, G ss S post → ss.length = k) : ∀ vs H Q E, SpE K G vs H Q E → vs.length = k := fun vs H Q E q => by
  obtain ⟨B, as, S, ss, post, c, rs, g, _⟩ := q
  rw [rs.length]
  exact h ss S post g
theorem sp_bodyE {G : List Sl → List Dat → (Dat → List Dat → Prop) → Prop} {N : List Str} {vs : List V} {Q : VK} (h : SpE K G vs H Q E)
    (k : ∀ ss S post, G ss S post → SP K S.length t (ss.map some ++ List.replicate (N.length - ss.length) none) S { rt := post, nx := fun _ T => post .non (T.take S.length) }) : t { nx := fun _ H' => Q .non H', rt := Q } (start N vs) H := by
  obtain ⟨B, as, S, ss, post, c, rs, g, q⟩ := h
  refine k ss S post g B H as B B H as _ c.len ⟨Ex.refl B, List.take_length, Evo.refl, fun a ha => by rw [List.drop_length] at ha; cases ha⟩ c (EnvR.start rs) _ ⟨fun env' T B' H' as' σ' f' c' g' p1 => ?_, fun v r' T B' H' c' e' r1 p1 => ?_, fun _ _ _ _ _ _ _ _ _ p => p.elim, fun _ _ _ _ _ _ _ _ _ p => p.elim, trivial⟩
  · have c2 := c'.upto as.length
    rw [f'.base, c.len] at c2
    exact q .non .non B' H' _ c2 f'.evo .non p1
  · exact q v r' B' H' T c' e' r1 p1
/-- x = e, e by what holds of it -/
theorem sp_setE {post : Sl → List Dat → Prop} (h : EvE K te env S post) (q : ∀ r S2, post r S2 → SP K n u (env.set i (some r)) S2 P) : SP K n (tSeq (tAsg te (gName i)) u) env S P := fun B0 H0 as0 Bk B H as σ hl f c g D m =>
  h B H as σ c g _ fun v r B1 H1 S1 c1 e1 r1 hp => q r S1 hp B0 H0 as0 Bk B1 H1 as _ hl (f.step e1) c1 ((g.mono e1.ex).set i r1) D m
theorem sp_setE1 {post : Sl → List Dat → Prop} (h : EvE K te env S post) (q : ∀ r S2, post r S2 → P.nx (env.set i (some r)) S2) : SP K n (tAsg te (gName i)) env S P := fun B0 H0 as0 Bk B H as σ hl f c g D m =>
  h B H as σ c g _ fun v r B1 H1 S1 c1 e1 r1 hp => m.nx _ S1 B1 H1 as _ (f.step e1) c1 ((g.mono e1.ex).set i r1) (q r S1 hp)
/-- return e -/
theorem sp_retE {post : Sl → List Dat → Prop} (h : EvE K te env S post) (q : ∀ r S2, post r S2 → ∃ d, r = .d d ∧ P.rt d (S2.take n)) : SP K n (tRet te) env S P := fun B0 H0 as0 Bk B H as σ hl f c g D m =>
  h B H as σ c g _ fun v r B1 H1 S1 c1 e1 r1 hp => by
    obtain ⟨d, rfl, hq⟩ := q r S1 hp
    have f1 := f.step e1
    have c2 := c1.upto as0.length
    rw [f1.base] at c2
    subst hl
    exact m.rt v d _ B1 H1 c2 f1.evo r1 hq
theorem ev_callE {G : List Sl → List Dat → (Dat → List Dat → Prop) → Prop} {ss : List Sl} {post : Dat → List Dat → Prop} (h : EvA K tA env S ss S1) (hg : G ss S1 post) : EvE K (tCall (SpE K G) [] E tA) env S (fun r T => ∃ d, r = .d d ∧ post d T) := fun B H as σ c g Q q =>
  h B H as σ c g _ fun vs B1 H1 c1 e1 r1 => ⟨B1, as, S1, ss, post, c1, by rw [List.append_nil]; exact r1, hg, fun v r B2 H2 S2 c2 e2 r2 hp => q v (.d r) B2 H2 S2 c2 (e1.trans e2) r2 ⟨r, rfl, hp⟩⟩
theorem EvE.ev {post : Sl → List Dat → Prop} (h : EvE K te env S post) (q : ∀ r S2, post r S2 → r = x ∧ S2 = S1) : Ev K te env S x S1 := fun B H as σ c g Q k =>
  h B H as σ c g Q fun v r B1 H1 S2 c1 e1 r1 hp => by
    obtain ⟨rfl, rfl⟩ := q r S2 hp
    exact k v B1 H1 c1 e1 r1
theorem Ev.ofEv (h : Ev K te env S x S1) : EvE K te env S (fun r T => r = x ∧ T = S1) := fun B H as σ c g Q k =>
  h B H as σ c g Q fun v B1 H1 c1 e1 r1 => k v x B1 H1 S1 c1 e1 r1 ⟨rfl, rfl⟩
/-- e[i] -/
theorem ev_ixE {post : Sl → List Dat → Prop} {iv : Int} (h : EvE K te env S post) (q : ∀ r S2, post r S2 → Ev K ti env S2 (.d (.int iv)) S1 ∧ ∃ ds, Seq S1 r ds ∧ atI ds iv = some d) : Ev K (tOp (rIx K) te ti) env S (.d d) S1 := fun B H as σ c g Q k =>
  h B H as σ c g _ fun v r B1 H1 S2 c1 e1 r1 hp => by
    obtain ⟨hi, ds, hs, ha⟩ := q r S2 hp
    refine hi B1 H1 as σ c1 (g.mono e1.ex) _ fun w B2 H2 c2 e2 r2 => ?_
    exact op2_ix hs ha B2 H2 as v w c2 (r1.mono e2.ex) r2 _ fun u B3 H3 c3 e3 r3 => k u B3 H3 c3 ((e1.trans e2).trans e3) r3
/-- a, b, .. = e, its parts known -/
theorem sp_asgE {post : Sl → List Dat → Prop} {g : TG} {is : List Nat} {f : Dat → Env1 → Env1} (h : EvE K te env S post) (q : ∀ r S2, post r S2 → ∃ d, r = .d d ∧ TgD K g d is (f d) ∧ SP K n u (f d env) S2 P) : SP K n (tSeq (tAsg te g) u) env S P := fun B0 H0 as0 Bk B H as σ hl f0 c g0 D m =>
  h B H as σ c g0 _ fun v r B1 H1 S1 c1 e1 r1 hp => by
    obtain ⟨d, rfl, hg, k⟩ := q r S1 hp
    exact hg B1 H1 as S1 σ env v c1 (g0.mono e1.ex) r1 _ fun σ' g' _ => k B0 H0 as0 Bk B1 H1 as σ' hl (f0.step e1) c1 g' D m
end
end RW

set_option Elab.async false
set_option linter.all false
set_option maxRecDepth 100000
set_option maxHeartbeats 4000000
namespace RW
open PySem PySem.Spec PyProof.Rows L2
open Evl (Ex)
/-! ### min and max of numbers in a list or a tuple -/
theorem mxL_fold : ∀ (xs : List Int) (x : Int), xs.foldl max x = mxL (x :: xs)
  | [], x => rfl
  | y :: xs, x => by
    rw [List.foldl_cons, mxL_fold xs]
    have e : mxL (x :: y :: xs) = max x (mxL (y :: xs)) := by
      show (if (y :: xs) = [] then x else max x (mxL (y :: xs))) = _
      rw [if_neg (by simp)]
    rw [e]
    unfold mxL
    by_cases h : xs = []
    · rw [if_pos h, if_pos h]
    · rw [if_neg h, if_neg h]; omega
theorem mnL_fold (xs : List Int) (x : Int) : xs.foldl min x = mnL (x :: xs) := by
  have key : ∀ (xs : List Int) (x : Int), - xs.foldl min x = (xs.map fun z => -z).foldl max (-x) := fun xs => by
    induction xs with
    | nil => intro x; rfl
    | cons y xs ih =>
      intro x
      rw [List.foldl_cons, List.map_cons, List.foldl_cons, ih]
      congr 1; omega
  have := key xs x
  rw [mxL_fold] at this
  unfold mnL
  rw [List.map_cons]; omega
def rMinA (K : PySem.W.Frag) : List V → Hp → VK → Prop := fun vs H Q => ∃ (a : Addr) (ns : List Int), vs = [V.ref a] ∧ (SqL K H a (ns.map V.int) ∨ SqT K H a (ns.map V.int)) ∧ ns ≠ [] ∧ Q (.int (mnL ns)) H
def rMaxA (K : PySem.W.Frag) : List V → Hp → VK → Prop := fun vs H Q => ∃ (a : Addr) (ns : List Int), vs = [V.ref a] ∧ (SqL K H a (ns.map V.int) ∨ SqT K H a (ns.map V.int)) ∧ ns ≠ [] ∧ Q (.int (mxL ns)) H
theorem dp_ints {K : PySem.W.Frag} {H : Hp} : ∀ ns : List Int, DpAll K H (ns.map V.int) (ns.map PyData.int)
  | [] => .nil
  | n :: ns => .cons (.int n) (dp_ints ns)
theorem alike_ints (ns : List Int) : PySem.W.AlikeAll (ns.map PyData.int) := by
  refine ⟨fun x hx y hy => ?_, fun x hx => ?_⟩
  · obtain ⟨i, _, rfl⟩ := List.mem_map.mp hx
    obtain ⟨j, _, rfl⟩ := List.mem_map.mp hy
    rfl
  · obtain ⟨i, _, rfl⟩ := List.mem_map.mp hx
    exact fun z => nomatch z
theorem depth_ints : ∀ ns : List Int, PyData.depthAll (ns.map PyData.int) = 0
  | [] => rfl
  | n :: ns => by
    show max (PyData.depth (.int n)) (PyData.depthAll (ns.map PyData.int)) = 0
    rw [depth_ints ns]; rfl
theorem cr_minA {X : Cx} (K : PySem.W.Frag) (hu : X.A.units + 64 < cLine) (hc : X.calm = true := by rfl) (hK : X.K = K := by rfl) : CallR X (.builtin "min") (rMinA K) := by
  subst hK
  intro pins s σ H vs us Q I r h
  obtain ⟨a, ns, rfl, hs, hne, q⟩ := h
  obtain ⟨x, xs, rfl⟩ : ∃ x xs, ns = x :: xs := by cases ns with | nil => exact absurd rfl hne | cons x xs => exact ⟨x, xs, rfl⟩
  have hu2 : X.A.units + 1 + PyData.depthAll (PyData.int x :: xs.map PyData.int) < cLine := by
    have : PyData.depthAll (PyData.int x :: xs.map PyData.int) = 0 := depth_ints (x :: xs)
    omega
  rw [Vals.ref1 r]
  rcases hs with hs | hs
  · obtain ⟨as, r1⟩ := Dp.reads I (.list ((x :: xs).map .int)) (.ref a) (.ref a) (.lst hs (dp_ints _)) rfl
    cases r1 with
    | list h1 h2 h3 h4 =>
      refine PySem.W.min_list_data (I.ok.hd hc) ⟨_, h1, h2, _, h3⟩ h4 (alike_ints (x :: xs)) hu2 fun i v h' tk bs hv hr hk => ⟨.int (mnL (x :: xs)), H, I.kept hk, ?_, q⟩
      rw [PySem.W.minD_ints, mnL_fold] at hr
      cases hr
      exact ⟨_, rfl⟩
  · obtain ⟨as, r1⟩ := Dp.reads I (.tuple ((x :: xs).map .int)) (.ref a) (.ref a) (.tup hs (dp_ints _)) rfl
    cases r1 with
    | tuple h1 h2 h3 h4 =>
      refine PySem.W.min_tuple_data (I.ok.hd hc) ⟨_, h1, h2, _, h3⟩ h4 (alike_ints (x :: xs)) hu2 fun i v h' tk bs hv hr hk => ⟨.int (mnL (x :: xs)), H, I.kept hk, ?_, q⟩
      rw [PySem.W.minD_ints, mnL_fold] at hr
      cases hr
      exact ⟨_, rfl⟩
theorem cr_maxA {X : Cx} (K : PySem.W.Frag) (hu : X.A.units + 64 < cLine) (hc : X.calm = true := by rfl) (hK : X.K = K := by rfl) : CallR X (.builtin "max") (rMaxA K) := by
  subst hK
  intro pins s σ H vs us Q I r h
  obtain ⟨a, ns, rfl, hs, hne, q⟩ := h
  obtain ⟨x, xs, rfl⟩ : ∃ x xs, ns = x :: xs := by cases ns with | nil => exact absurd rfl hne | cons x xs => exact ⟨x, xs, rfl⟩
  have hu2 : X.A.units + 1 + PyData.depthAll (PyData.int x :: xs.map PyData.int) < cLine := by
    have : PyData.depthAll (PyData.int x :: xs.map PyData.int) = 0 := depth_ints (x :: xs)
    omega
  rw [Vals.ref1 r]
  rcases hs with hs | hs
  · obtain ⟨as, r1⟩ := Dp.reads I (.list ((x :: xs).map .int)) (.ref a) (.ref a) (.lst hs (dp_ints _)) rfl
    cases r1 with
    | list h1 h2 h3 h4 =>
      refine PySem.W.max_list_data (I.ok.hd hc) ⟨_, h1, h2, _, h3⟩ h4 (alike_ints (x :: xs)) hu2 fun i v h' tk bs hv hr hk => ⟨.int (mxL (x :: xs)), H, I.kept hk, ?_, q⟩
      rw [PySem.W.maxD_ints, mxL_fold] at hr
      cases hr
      exact ⟨_, rfl⟩
  · obtain ⟨as, r1⟩ := Dp.reads I (.tuple ((x :: xs).map .int)) (.ref a) (.ref a) (.tup hs (dp_ints _)) rfl
    cases r1 with
    | tuple h1 h2 h3 h4 =>
      refine PySem.W.max_tuple_data (I.ok.hd hc) ⟨_, h1, h2, _, h3⟩ h4 (alike_ints (x :: xs)) hu2 fun i v h' tk bs hv hr hk => ⟨.int (mxL (x :: xs)), H, I.kept hk, ?_, q⟩
      rw [PySem.W.maxD_ints, mxL_fold] at hr
      cases hr
      exact ⟨_, rfl⟩
section
variable {K : PySem.W.Frag} {S : List Dat} {x : Sl} {ns : List Int}
theorem cd_minA (h : Seq S x (ns.map Dat.int)) (hne : ns ≠ []) : CallD K (rMinA K) [x] S (.int (mnL ns)) S := fun B H as vs c r Q q => by
  cases r with
  | cons r1 rr =>
    cases rr
    obtain ⟨a, k, ws, rfl, hw, rv⟩ := h.read c r1
    have := rv.ints
    subst this
    exact ⟨a, ns, rfl, sq_or hw, hne, q _ B H c Evo.refl (.int _)⟩
theorem cd_maxA (h : Seq S x (ns.map Dat.int)) (hne : ns ≠ []) : CallD K (rMaxA K) [x] S (.int (mxL ns)) S := fun B H as vs c r Q q => by
  cases r with
  | cons r1 rr =>
    cases rr
    obtain ⟨a, k, ws, rfl, hw, rv⟩ := h.read c r1
    have := rv.ints
    subst this
    exact ⟨a, ns, rfl, sq_or hw, hne, q _ B H c Evo.refl (.int _)⟩
end
/-! ### not xs as a value -/
theorem pe_notTK (K : PySem.W.Frag) {X : Cx} {a : Expr} {ta : TE} {pos : Pos} (ha : PE X a ta) (hK : X.K = K := by rfl) : PE X (.UnaryOp .Not a pos) (tNotT K ta) := by
  subst hK
  exact pe_notT ha
section
variable {K : PySem.W.Frag} {ta : TE} {env : Env1} {S S1 : List Dat} {x : Sl} {ds : List Dat}
theorem ev_notT (h : Ev K ta env S x S1) (hs : Seq S1 x ds) : Ev K (tNotT K ta) env S (.d (.bl ds.isEmpty)) S1 := fun B H as σ c g Q q => h B H as σ c g _ fun v B1 H1 c1 e1 r1 => by
  obtain ⟨a, k, vs, rfl, hq, hr⟩ := hs.read c1 r1
  refine ⟨!ds.isEmpty, ?_, by rw [Bool.not_not]; exact q _ B1 H1 c1 e1 (.bl _)⟩
  rw [← isEmpty_reps hr]
  cases k with
  | true => exact .inl ⟨vs, hq, rfl⟩
  | false => exact .inr (.inl ⟨vs, hq, rfl⟩)
end
/-! ### in, not in of lists and tuples of data -/
theorem u65 {k : Nat} {A : Around} (r : Room k A) : A.units + 65 < cLine := by have := r.un; omega
def rInA (K : PySem.W.Frag) (neg : Bool) : R2 := fun x y H Q => ∃ d ds, Dp K H x d ∧ (Dp K H y (.list ds) ∨ Dp K H y (.tuple ds)) ∧ SeqAt.shaped d = true ∧ PyData.canLayAll0 ds = true ∧ Q (.bl (neg != ds.any fun z => PyData.eqv z d)) H
theorem op_inAK (K : PySem.W.Frag) {X : Cx} (hu : X.A.units + 65 < cLine) (hK : X.K = K := by rfl) : OpR X (compareOp .In) (rInA K false) := by
  subst hK
  intro pins s σ H x y v u Q I rx ry h
  obtain ⟨d, ds, hd, he, sd, se, q⟩ := h
  obtain ⟨as, r1⟩ := Dp.reads I d x v hd rx
  rcases he with he | he
  · obtain ⟨bs, r2⟩ := Dp.reads I (.list ds) y u he ry
    exact SeqAt.in_list_reads r2 r1 se (SeqAt.canLay_of_shaped sd) (room_in_shaped sd hu) ⟨.bl _, H, I, rfl, by simpa using q⟩
  · obtain ⟨bs, r2⟩ := Dp.reads I (.tuple ds) y u he ry
    exact SeqAt.in_tuple_reads r2 r1 se (SeqAt.canLay_of_shaped sd) (room_in_shaped sd hu) ⟨.bl _, H, I, rfl, by simpa using q⟩
theorem op_notInAK (K : PySem.W.Frag) {X : Cx} (hu : X.A.units + 65 < cLine) (hK : X.K = K := by rfl) : OpR X (compareOp .NotIn) (rInA K true) := by
  subst hK
  intro pins s σ H x y v u Q I rx ry h
  obtain ⟨d, ds, hd, he, sd, se, q⟩ := h
  obtain ⟨as, r1⟩ := Dp.reads I d x v hd rx
  rcases he with he | he
  · obtain ⟨bs, r2⟩ := Dp.reads I (.list ds) y u he ry
    exact SeqAt.notIn_list_reads r2 r1 se (SeqAt.canLay_of_shaped sd) (room_in_shaped sd hu) ⟨.bl _, H, I, rfl, by simpa using q⟩
  · obtain ⟨bs, r2⟩ := Dp.reads I (.tuple ds) y u he ry
    exact SeqAt.notIn_tuple_reads r2 r1 se (SeqAt.canLay_of_shaped sd) (room_in_shaped sd hu) ⟨.bl _, H, I, rfl, by simpa using q⟩
section
variable {K : PySem.W.Frag} {S : List Dat} {x y : Sl} {d : Dat} {ds : List Dat} {neg : Bool}
theorem o_inA {m1 m2 : Nat} (h1 : PlS S x m1 d) (h2 : PlS S y m2 (.tup ds) ∨ PlS S y m2 (.lst ds)) (hm : m1 ≤ 64) : Op2 K (rInA K neg) x y S (.bl (neg != ds.any fun e => eqD e d)) := fun B H as v w c r1 r2 Q q => by
  have e : ∀ L : List Dat, ((pyAll L).any fun z => PyData.eqv z (py d)) = L.any fun e => eqD e d := fun L => by
    induction L with
    | nil => rfl
    | cons z L ih =>
      show (PyData.eqv (py z) (py d) || (pyAll L).any fun z => PyData.eqv z (py d)) = _
      rw [ih]; rfl
  have hl : PyData.canLayAll0 (pyAll ds) = true := by
    rcases h2 with h2 | h2
    · exact h2.1.lay.1
    · exact h2.1.lay.1
  refine ⟨py d, pyAll ds, h1.dp c r1, ?_, h1.1.shaped hm, hl, ?_⟩
  · rcases h2 with h2 | h2
    · exact .inr (h2.dp c r2)
    · exact .inl (h2.dp c r2)
  · rw [e]; exact q _ B H c Evo.refl (.bl _)
end
end RW

set_option Elab.async false
set_option linter.all false
set_option maxRecDepth 100000
set_option maxHeartbeats 4000000
namespace RW
open PySem PySem.Spec PyProof.Rows L2
open Evl (Ex)
/-! ### what is known only by what holds of it: arguments, new lists, tests, what is walked -/
def EvAE (K : PySem.W.Frag) (ta : TA) (env : Env1) (S : List Dat) (post : List Sl → List Dat → Prop) : Prop :=
  ∀ B H as σ, Ok K B H as S → EnvR K B as σ env → ∀ Q : List V → Hp → Prop, (∀ vs rs B' H' S', Ok K B' H' as S' → Evo B H as B' H' → RepSs K B' as vs rs → post rs S' → Q vs H') → ta σ H Q
def EvNE (K : PySem.W.Frag) (te : TE) (env : Env1) (S : List Dat) (post : List Dat → List Dat → Prop) : Prop :=
  ∀ B H as σ, Ok K B H as S → EnvR K B as σ env → ∀ Q : VK, (∀ p B' H' vs ds S', Ok K B' H' as S' → Evo B H as B' H' → Fresh H as p → B' p = none → H' p = some (.lst vs) → Reps K B' vs ds → post ds S' → Q (.ref p) H') → te σ H Q
def EvTE (K : PySem.W.Frag) (tt : TT) (env : Env1) (S : List Dat) (post : Bool → List Dat → Prop) : Prop :=
  ∀ B H as σ, Ok K B H as S → EnvR K B as σ env → ∀ Q : Bool → Hp → Prop, (∀ b B' H' S', Ok K B' H' as S' → Evo B H as B' H' → post b S' → Q b H') → tt σ H Q
def IterE (K : PySem.W.Frag) (wi : TI) (env : Env1) (S : List Dat) (post : List Dat → (List Addr → List Addr → List Dat → Prop) → List Dat → Prop) : Prop :=
  ∀ B H as σ, Ok K B H as S → EnvR K B as σ env → ∀ R : It → Hp → Prop, (∀ J B1 H1 ds G S1, Ok K B1 H1 as S1 → Evo B H as B1 H1 → post ds G S1 → WalkD K B1 J (G as) ds → R J H1) → wi σ H R
section
variable {K : PySem.W.Frag} {n : Nat} {te ta tb tc to ti tv : TE} {tt tu : TT} {tA tR : TA} {env env' : Env1} {S S1 S2 S3 : List Dat} {x y z : Sl} {d e : Dat} {ds es ds' : List Dat} {P P' : Post} {t u : TS} {r r' : R2}
  {B B0 B1 B2 B' Bk H H0 H1 H2 H' : Hp} {as as0 as1 : List Addr} {D : Ends} {σ : L2.St} {i j k : Nat} {p : Addr} {E : XK} {p1 p2 post : Sl → List Dat → Prop} {pA : List Sl → List Dat → Prop} {pN : List Dat → List Dat → Prop} {pT : Bool → List Dat → Prop}
/-! from the deterministic ones -/
theorem EvA.ofEv {rs : List Sl} (h : EvA K tA env S rs S1) : EvAE K tA env S (fun r T => r = rs ∧ T = S1) := fun B H as σ c g Q k =>
  h B H as σ c g Q fun vs B1 H1 c1 e1 r1 => k vs rs B1 H1 S1 c1 e1 r1 ⟨rfl, rfl⟩
theorem EvN.ofEv (h : EvN K te env S ds S1) : EvNE K te env S (fun r T => r = ds ∧ T = S1) := fun B H as σ c g Q k =>
  h B H as σ c g Q fun p B1 H1 vs c1 e1 hp hb hl r1 => k p B1 H1 vs ds S1 c1 e1 hp hb hl r1 ⟨rfl, rfl⟩
theorem EvT.ofEv {b : Bool} (h : EvT K tt env S b S1) : EvTE K tt env S (fun r T => r = b ∧ T = S1) := fun B H as σ c g Q k =>
  h B H as σ c g Q fun B1 H1 c1 e1 => k b B1 H1 S1 c1 e1 ⟨rfl, rfl⟩
theorem IterD.ofEv {wi : TI} {G : List Addr → List Addr → List Dat → Prop} (h : IterD K wi env S G ds S1) : IterE K wi env S (fun r G' T => r = ds ∧ G' = G ∧ T = S1) := fun B H as σ c g R k =>
  h B H as σ c g R fun J B1 H1 c1 e1 w => k J B1 H1 ds G S1 c1 e1 ⟨rfl, rfl, rfl⟩ w
theorem EvE.imp (h : EvE K te env S p1) (q : ∀ r T, p1 r T → post r T) : EvE K te env S post := fun B H as σ c g Q k =>
  h B H as σ c g Q fun v r B1 H1 T c1 e1 r1 hp => k v r B1 H1 T c1 e1 r1 (q r T hp)
theorem EvTE.imp {pT' : Bool → List Dat → Prop} (h : EvTE K tt env S pT) (q : ∀ r T, pT r T → pT' r T) : EvTE K tt env S pT' := fun B H as σ c g Q k =>
  h B H as σ c g Q fun b B1 H1 T c1 e1 hp => k b B1 H1 T c1 e1 (q b T hp)
theorem EvNE.imp {pN' : List Dat → List Dat → Prop} (h : EvNE K te env S pN) (q : ∀ r T, pN r T → pN' r T) : EvNE K te env S pN' := fun B H as σ c g Q k =>
  h B H as σ c g Q fun p B1 H1 vs ds T c1 e1 a b cc d hp => k p B1 H1 vs ds T c1 e1 a b cc d (q ds T hp)
theorem EvE.inEnv (e : env = env') (h : EvE K te env' S p1) : EvE K te env S p1 := e ▸ h
/-- one value, known -/
theorem Ev.e1 (h : Ev K te env S x S1) (q : post x S1) : EvE K te env S post := fun B H as σ c g Q k =>
  h B H as σ c g Q fun v B1 H1 c1 e1 r1 => k v x B1 H1 S1 c1 e1 r1 q
theorem EvT.e1 {b : Bool} (h : EvT K tt env S b S1) (q : pT b S1) : EvTE K tt env S pT := fun B H as σ c g Q k =>
  h B H as σ c g Q fun B1 H1 c1 e1 => k b B1 H1 S1 c1 e1 q
theorem EvN.e1 (h : EvN K te env S ds S1) (q : pN ds S1) : EvNE K te env S pN := fun B H as σ c g Q k =>
  h B H as σ c g Q fun p B1 H1 vs c1 e1 hp hb hl r1 => k p B1 H1 vs ds S1 c1 e1 hp hb hl r1 q
/-! ### expressions -/
theorem eae_nil (q : pA [] S) : EvAE K tNil env S pA := fun B H as σ c g Q k => k [] [] B H S c Evo.refl .nil q
theorem eae_cons (h : EvE K ta env S p1) (hr : ∀ x S1, p1 x S1 → EvAE K tA env S1 (fun xs T => pA (x :: xs) T)) : EvAE K (tCons ta tA) env S pA := fun B H as σ c g Q k =>
  h B H as σ c g _ fun v x B1 H1 S1 c1 e1 r1 hp => hr x S1 hp B1 H1 as σ c1 (g.mono e1.ex) _ fun vs xs B2 H2 S2 c2 e2 r2 hq => k _ (x :: xs) B2 H2 S2 c2 (e1.trans e2) (.cons (r1.mono e2.ex) r2) hq
theorem eae_cons1 (h : Ev K ta env S x S1) (hr : EvAE K tA env S1 (fun xs T => pA (x :: xs) T)) : EvAE K (tCons ta tA) env S pA := fun B H as σ c g Q k =>
  h B H as σ c g _ fun v B1 H1 c1 e1 r1 => hr B1 H1 as σ c1 (g.mono e1.ex) _ fun vs xs B2 H2 S2 c2 e2 r2 hq => k _ (x :: xs) B2 H2 S2 c2 (e1.trans e2) (.cons (r1.mono e2.ex) r2) hq
theorem eve_op {p2 : Sl → Sl → List Dat → Prop} (ha : EvE K ta env S p1) (hb : ∀ x S1, p1 x S1 → EvE K tb env S1 (p2 x)) (hr : ∀ x S1 y S2, p1 x S1 → p2 x y S2 → ∃ d, Op2 K r x y S2 d ∧ post (.d d) S2) : EvE K (tOp r ta tb) env S post := fun B H as σ c g Q k =>
  ha B H as σ c g _ fun v x B1 H1 S1 c1 e1 r1 hx => hb x S1 hx B1 H1 as σ c1 (g.mono e1.ex) _ fun w y B2 H2 S2 c2 e2 r2 hy => by
    obtain ⟨d, ho, hp⟩ := hr x S1 y S2 hx hy
    exact ho B2 H2 as v w c2 (r1.mono e2.ex) r2 _ fun u B3 H3 c3 e3 r3 => k u (.d d) B3 H3 S2 c3 ((e1.trans e2).trans e3) r3 hp
/-- the right one known -/
theorem eve_opL (ha : EvE K ta env S p1) (hb : ∀ x S1, p1 x S1 → ∃ y d, Ev K tb env S1 y S1 ∧ Op2 K r x y S1 d ∧ post (.d d) S1) : EvE K (tOp r ta tb) env S post := fun B H as σ c g Q k =>
  ha B H as σ c g _ fun v x B1 H1 S1 c1 e1 r1 hx => by
    obtain ⟨y, d, hb, ho, hp⟩ := hb x S1 hx
    exact hb B1 H1 as σ c1 (g.mono e1.ex) _ fun w B2 H2 c2 e2 r2 => ho B2 H2 as v w c2 (r1.mono e2.ex) r2 _ fun u B3 H3 c3 e3 r3 => k u (.d d) B3 H3 S1 c3 ((e1.trans e2).trans e3) r3 hp
/-- the left one known -/
theorem eve_opR (ha : Ev K ta env S x S1) (hb : EvE K tb env S1 p1) (ho : ∀ y S2, p1 y S2 → ∃ d, Op2 K r x y S2 d ∧ post (.d d) S2) : EvE K (tOp r ta tb) env S post := fun B H as σ c g Q k =>
  ha B H as σ c g _ fun v B1 H1 c1 e1 r1 => hb B1 H1 as σ c1 (g.mono e1.ex) _ fun w y B2 H2 S2 c2 e2 r2 hy => by
    obtain ⟨d, ho, hp⟩ := ho y S2 hy
    exact ho B2 H2 as v w c2 (r1.mono e2.ex) r2 _ fun u B3 H3 c3 e3 r3 => k u (.d d) B3 H3 S2 c3 ((e1.trans e2).trans e3) r3 hp
theorem eve_un {r : V → Hp → VK → Prop} (ha : EvE K ta env S p1) (hr : ∀ x S1, p1 x S1 → ∃ d, Op1 K r x S1 d ∧ post (.d d) S1) : EvE K (tUn r ta) env S post := fun B H as σ c g Q k =>
  ha B H as σ c g _ fun v x B1 H1 S1 c1 e1 r1 hx => by
    obtain ⟨d, ho, hp⟩ := hr x S1 hx
    exact ho B1 H1 as v c1 r1 _ fun u B3 H3 c3 e3 r3 => k u (.d d) B3 H3 S1 c3 (e1.trans e3) r3 hp
/-- f(..), f's result known by what holds of it -/
theorem eve_call {G : List Sl → List Dat → (Dat → List Dat → Prop) → Prop} (h : EvAE K tA env S pA) (hg : ∀ ss S1, pA ss S1 → ∃ po, G ss S1 po ∧ ∀ r T, po r T → post (.d r) T) : EvE K (tCall (SpE K G) [] E tA) env S post := fun B H as σ c g Q q =>
  h B H as σ c g _ fun vs ss B1 H1 S1 c1 e1 r1 hp => by
    obtain ⟨po, hg, hq⟩ := hg ss S1 hp
    exact ⟨B1, as, S1, ss, po, c1, by rw [List.append_nil]; exact r1, hg, fun v r B2 H2 S2 c2 e2 r2 hp => q v (.d r) B2 H2 S2 c2 (e1.trans e2) r2 (hq r S2 hp)⟩
/-- f(..), f's result told -/
theorem eve_callD {G : List Sl → List Dat → Dat → List Dat → Prop} (h : EvAE K tA env S pA) (hg : ∀ ss S1, pA ss S1 → ∃ d S2, G ss S1 d S2 ∧ post (.d d) S2) : EvE K (tCall (SpD K G) [] E tA) env S post := fun B H as σ c g Q q =>
  h B H as σ c g _ fun vs ss B1 H1 S1 c1 e1 r1 hp => by
    obtain ⟨d, S2, hg, hq⟩ := hg ss S1 hp
    exact ⟨B1, as, S1, ss, d, S2, c1, by rw [List.append_nil]; exact r1, hg, fun v B2 H2 c2 e2 r2 => q v (.d d) B2 H2 S2 c2 (e1.trans e2) r2 hq⟩
theorem eve_cb {r : List V → Hp → VK → Prop} (h : EvAE K tA env S pA) (hc : ∀ xs S1, pA xs S1 → ∃ d S2, CallD K r xs S1 d S2 ∧ post (.d d) S2) : EvE K (tCB r tA) env S post := fun B H as σ c g Q q =>
  h B H as σ c g _ fun vs xs B1 H1 S1 c1 e1 r1 hp => by
    obtain ⟨d, S2, hc, hq⟩ := hc xs S1 hp
    exact hc B1 H1 as vs c1 r1 Q fun u B2 H2 c2 e2 r2 => q u (.d d) B2 H2 S2 c2 (e1.trans e2) r2 hq
theorem eve_tup (h : EvAE K tA env S (fun xs T => ∃ ds, xs = ds.map Sl.d ∧ ds.length ≤ sizeLine ∧ post (.d (.tup ds)) T)) : EvE K (tTup tA) env S post := fun B H as σ c g Q q =>
  h B H as σ c g _ fun vs xs B1 H1 S1 c1 e1 r1 ⟨ds, ex, hl, hp⟩ => by
    subst ex
    exact ⟨by rw [r1.ds.length]; exact hl, fun p hn => q _ (.d (.tup ds)) (upd B1 p (.tup vs)) _ S1 (c1.new hn) (e1.trans (Evo.new c1 hn)) (.tup (.inl (.inl upd_same)) (r1.ds.mono (Evl.Ex.new (c1.Bnone hn)))) hp⟩
theorem ene_lst (h : EvAE K tA env S (fun xs T => ∃ ds, xs = ds.map Sl.d ∧ ds.length ≤ sizeLine ∧ pN ds T)) : EvNE K (tLst tA) env S pN := fun B H as σ c g Q q =>
  h B H as σ c g _ fun vs xs B1 H1 S1 c1 e1 r1 ⟨ds, ex, hl, hn⟩ => by
    subst ex
    exact ⟨by rw [r1.ds.length]; exact hl, fun p hp => evn_new c c1 e1 hp r1.ds fun p B' H' vs c2 e2 f2 b2 l2 r2 => q p B' H' vs ds S1 c2 e2 f2 b2 l2 r2 hn⟩
/-- a new list becomes known -/
theorem eve_N (h : EvNE K te env S (fun ds T => post (.d (.lst ds)) T)) : EvE K te env S post := fun B H as σ c g Q q =>
  h B H as σ c g _ fun p B1 H1 vs ds S1 c1 e1 hp hb hl r1 hq =>
    q _ (.d (.lst ds)) (upd B1 p (.lst vs)) H1 S1 (c1.know hl hb hp.1) ⟨e1.ex.trans (Evl.Ex.new hb), e1.fr, fun a o h nt => by rw [upd_ne (by rintro rfl; exact hp.2.no h nt)]; exact e1.gr a o h nt, e1.tp, e1.pr⟩ (.lst upd_same (r1.mono (Evl.Ex.new hb))) hq
theorem eve_if (h : EvTE K tt env S pT) (h1 : ∀ S1, pT true S1 → EvE K ta env S1 post) (h2 : ∀ S1, pT false S1 → EvE K tb env S1 post) : EvE K (tIf tt ta tb) env S post := fun B H as σ c g Q q =>
  h B H as σ c g _ fun b B1 H1 S1 c1 e1 hb => by
    cases b with
    | true => exact h1 S1 hb B1 H1 as σ c1 (g.mono e1.ex) Q fun v r B2 H2 S2 c2 e2 r2 => q v r B2 H2 S2 c2 (e1.trans e2) r2
    | false => exact h2 S1 hb B1 H1 as σ c1 (g.mono e1.ex) Q fun v r B2 H2 S2 c2 e2 r2 => q v r B2 H2 S2 c2 (e1.trans e2) r2
theorem eve_andV (h1 : EvE K ta env S p1) (hb : ∀ x S1, p1 x S1 → ∃ b, x = .d (.bl b) ∧ (b = false → post (.d (.bl false)) S1) ∧ (b = true → EvE K tb env S1 post)) : EvE K (tAndV ta tb) env S post := fun B H as σ c g Q q =>
  h1 B H as σ c g _ fun v x B1 H1 S1 c1 e1 r1 hx => by
    obtain ⟨b, rfl, h2, h3⟩ := hb x S1 hx
    cases r1
    refine ⟨b, rfl, ?_⟩
    cases b with
    | true => exact h3 rfl B1 H1 as σ c1 (g.mono e1.ex) Q fun v r B2 H2 S2 c2 e2 r2 => q v r B2 H2 S2 c2 (e1.trans e2) r2
    | false => exact q _ (.d (.bl false)) B1 H1 S1 c1 e1 (.bl false) (h2 rfl)
theorem eve_orV (h1 : EvE K ta env S p1) (hb : ∀ x S1, p1 x S1 → ∃ b, x = .d (.bl b) ∧ (b = true → post (.d (.bl true)) S1) ∧ (b = false → EvE K tb env S1 post)) : EvE K (tOrV ta tb) env S post := fun B H as σ c g Q q =>
  h1 B H as σ c g _ fun v x B1 H1 S1 c1 e1 r1 hx => by
    obtain ⟨b, rfl, h2, h3⟩ := hb x S1 hx
    cases r1
    refine ⟨b, rfl, ?_⟩
    cases b with
    | false => exact h3 rfl B1 H1 as σ c1 (g.mono e1.ex) Q fun v r B2 H2 S2 c2 e2 r2 => q v r B2 H2 S2 c2 (e1.trans e2) r2
    | true => exact q _ (.d (.bl true)) B1 H1 S1 c1 e1 (.bl true) (h2 rfl)
/-! ### tests -/
theorem ete_test (h : EvE K te env S (fun r T => ∃ b, r = .d (.bl b) ∧ pT b T)) : EvTE K (tTest te) env S pT := fun B H as σ c g Q q => h B H as σ c g _ fun v r B1 H1 S1 c1 e1 r1 ⟨b, e, hp⟩ => by
  subst e
  cases r1; exact ⟨b, rfl, q b B1 H1 S1 c1 e1 hp⟩
theorem ete_bl (h : EvE K ta env S (fun r T => ∃ b, r = .d (.bl b) ∧ pT b T)) : EvTE K (tTru K ta) env S pT := fun B H as σ c g Q q => h B H as σ c g _ fun v r B1 H1 S1 c1 e1 r1 ⟨b, e, hp⟩ => by
  subst e
  cases r1; exact ⟨b, rfl, q b B1 H1 S1 c1 e1 hp⟩
theorem ete_not (h : EvTE K tt env S (fun b T => pT (!b) T)) : EvTE K (tNot tt) env S pT := fun B H as σ c g Q q => h B H as σ c g _ fun b B1 H1 S1 c1 e1 hp => q (!b) B1 H1 S1 c1 e1 hp
theorem ete_and {pT' : Bool → List Dat → Prop} (h : EvTE K tt env S pT') (h1 : ∀ S1, pT' true S1 → EvTE K tu env S1 pT) (h2 : ∀ S1, pT' false S1 → pT false S1) : EvTE K (tAnd tt tu) env S pT := fun B H as σ c g Q q =>
  h B H as σ c g _ fun b B1 H1 S1 c1 e1 hb => by
    cases b with
    | true => exact h1 S1 hb B1 H1 as σ c1 (g.mono e1.ex) Q fun b B2 H2 S2 c2 e2 => q b B2 H2 S2 c2 (e1.trans e2)
    | false => exact q false B1 H1 S1 c1 e1 (h2 S1 hb)
theorem ete_or {pT' : Bool → List Dat → Prop} (h : EvTE K tt env S pT') (h1 : ∀ S1, pT' false S1 → EvTE K tu env S1 pT) (h2 : ∀ S1, pT' true S1 → pT true S1) : EvTE K (tOr tt tu) env S pT := fun B H as σ c g Q q =>
  h B H as σ c g _ fun b B1 H1 S1 c1 e1 hb => by
    cases b with
    | false => exact h1 S1 hb B1 H1 as σ c1 (g.mono e1.ex) Q fun b B2 H2 S2 c2 e2 => q b B2 H2 S2 c2 (e1.trans e2)
    | true => exact q true B1 H1 S1 c1 e1 (h2 S1 hb)
/-! ### what is walked -/
theorem ite_range {pI : List Dat → (List Addr → List Addr → List Dat → Prop) → List Dat → Prop} (h : EvAE K tA env S (fun xs T => ∃ m : Nat, xs = [.d (.int m)] ∧ m ≤ 1000 ∧ pI ((List.range m).map fun i => Dat.int (0 + (i : Nat))) G0 T)) : IterE K (iRng1 tA) env S pI := fun B H as σ c g R q => h B H as σ c g _ fun vs xs B1 H1 S1 c1 e1 r1 ⟨m, ex, hm, hp⟩ => by
  subst ex
  cases r1 with
  | cons r1 rr =>
    cases rr; cases r1
    refine ⟨(m : Int), rfl, by omega, by omega, q _ B1 H1 _ G0 S1 c1 e1 hp ?_⟩
    rw [← rng_map]
    exact walk_rng
theorem ite_seq {pI : List Dat → (List Addr → List Addr → List Dat → Prop) → List Dat → Prop} (h : EvE K te env S (fun r T => ∃ ds, (r = .d (.lst ds) ∨ r = .d (.tup ds)) ∧ pI ds G0 T)) : IterE K (iSeq K te) env S pI := fun B H as σ c g R q => h B H as σ c g _ fun v r B1 H1 S1 c1 e1 r1 ⟨ds, er, hp⟩ => by
  rcases er with rfl | rfl
  · cases r1 with
    | lst h r => exact ⟨_, true, rfl, ⟨_, Evl.sq_of (c1.ex _ _ h)⟩, q _ B1 H1 ds G0 S1 c1 e1 hp (walk_known (k := true) (Evl.sq_of h) r _)⟩
  · cases r1 with
    | tup h r => exact ⟨_, false, rfl, ⟨_, Evl.ex_t c1.ex h⟩, q _ B1 H1 ds G0 S1 c1 e1 hp (walk_known (k := false) h r _)⟩
/-- [e for g in wi if tt] -/
theorem ene_lc {wi : TI} {g : TG} {vs : List Nat} {pI : List Dat → (List Addr → List Addr → List Dat → Prop) → List Dat → Prop} (hw : IterE K wi env S pI) (Inv : List Dat → List Dat → Nat → List Dat → List Dat → Prop)
    (hI : ∀ ds G S1, pI ds G S1 → ds.length ≤ sizeLine ∧ Inv ds S1 0 [] S1 ∧ (∀ i acc S', Inv ds S1 i acc S' → ∀ as : List Addr, as.length = S1.length → as.length = S'.length → G as as S') ∧
      (∀ i d acc S', ds[i]? = some d → Inv ds S1 i acc S' → ∃ is f pT, TgD K g d is f ∧ (∀ i ∈ is, i ∈ vs) ∧ EvTE K tt (f (wipeE env vs)) S' pT ∧
        (∀ S2, pT true S2 → EvE K te (f (wipeE env vs)) S2 (fun r T => ∃ d, r = .d d ∧ Inv ds S1 (i + 1) (acc ++ [d]) T)) ∧ (∀ S2, pT false S2 → Inv ds S1 (i + 1) acc S2)) ∧
      (∀ acc S2, Inv ds S1 ds.length acc S2 → pN acc S2)) : EvNE K (tLc wi g tt te vs) env S pN := fun B H as σ c g0 Q q =>
  hw B H as σ c g0 _ fun J B1 H1 ds G S1 c1 e1 hpI w Dl hDl => by
    obtain ⟨hz, h0, hG, hs, hd⟩ := hI ds G S1 hpI
    have hD0 : Nn H Dl := e1.old hDl
    have c1' : Ok K B1 (upd H1 Dl (.lst [])) as S1 := c1.other (c1.Bnone hDl) (c1.fresh hDl)
    have e1' : Evo B H as B1 (upd H1 Dl (.lst [])) := e1.other hD0
    refine ⟨fun i mm H' => mm = ds.length - i ∧ i ≤ ds.length ∧ ∃ S' B' acc, Ok K B' H' as S' ∧ Evo B H as B' H' ∧ Ex B1 B' ∧ Acc K Dl B' H' as acc ∧ acc.length ≤ i ∧ Inv ds S1 i acc S', ⟨_, rfl, Nat.zero_le _, S1, B1, [], c1', e1', Evl.Ex.refl _, ⟨c1.Bnone hDl, c1.fresh hDl, [], upd_same, .nil⟩, Nat.zero_le _, h0⟩, ?_⟩
    rintro i mm H' ⟨rfl, hi, S', B', acc, c', e', ex', hacc, hal, hinv⟩
    have hg := hG i acc S' hinv as c1.len c'.len
    by_cases hlt : i < ds.length
    · refine .inr ⟨w.go B' H' as S' i ex' c' hg hlt, fun H2 => ∃ S2 B2 acc2, Ok K B2 H2 as S2 ∧ Evo B H as B2 H2 ∧ Ex B1 B2 ∧ Acc K Dl B2 H2 as acc2 ∧ acc2.length ≤ i + 1 ∧ Inv ds S1 (i + 1) acc2 S2, fun H2 hN => ⟨ds.length - (i + 1), by omega, rfl, hlt, hN⟩, fun x H2 hy => ?_⟩
      obtain ⟨B2, d, c2, e2, hd2, r2⟩ := w.yld B' H' as S' i x H2 ex' c' hg hlt hy
      obtain ⟨is, f, pT, tg, his, htt, ht, hf⟩ := hs i d acc S' hd2 hinv
      have gw : EnvR K B2 as (L2.wipe σ vs) (wipeE env vs) := ((g0.mono e1.ex).wipe vs).mono (ex'.trans e2.ex)
      refine tg B2 H2 as S' _ _ x c2 gw r2 _ fun σ3 g3 hw3 => ⟨?_, ?_⟩
      · rw [hw3 vs his]
        have : ∀ ws : List Nat, (∀ j ∈ ws, j ∈ vs) → L2.wipe (L2.wipe σ vs) ws = L2.wipe σ vs := by
          intro ws
          induction ws with
          | nil => intro _; rfl
          | cons j ws ih =>
            intro h
            show (L2.wipe (L2.wipe σ vs) ws).set j none = L2.wipe σ vs
            have e0 : L2.wipe (L2.wipe σ vs) ws = L2.wipe σ vs := ih fun k hk => h k (List.mem_cons_of_mem _ hk)
            rw [e0]
            have hj := h j List.mem_cons_self
            have key : ∀ (us : List Nat), j ∈ us → (L2.wipe σ us).set j none = L2.wipe σ us := by
              intro us
              induction us with
              | nil => intro h; cases h
              | cons k us ih =>
                intro hk
                unfold L2.wipe
                by_cases hj : j = k
                · subst hj; rw [List.set_set]
                · rw [List.set_comm _ _ (fun z => hj z.symm)]
                  rw [ih ((List.mem_cons.mp hk).resolve_left hj)]
            exact key vs hj
        exact this vs fun _ h => h
      · refine htt B2 H2 as σ3 c2 g3 _ fun b B3 H3 S2 c3 e3 hb => ?_
        have ac3 := (hacc.step e2).step e3
        have e03 := (e'.trans e2).trans e3
        have ex3 := (ex'.trans e2.ex).trans e3.ex
        cases b with
        | false => exact ⟨S2, B3, acc, c3, e03, ex3, ac3, by omega, hf S2 hb⟩
        | true =>
          show te σ3 H3 _
          refine ht S2 hb B3 H3 as σ3 c3 (g3.mono e3.ex) _ fun v r B4 H4 S3 c4 e4 r4 hr4 => ?_
          obtain ⟨d, er, hinv'⟩ := hr4
          subst er
          have ac4 := ac3.step e4
          obtain ⟨ws, hw4, hl4, ac5⟩ := ac4.snoc r4
          refine ⟨ws, hw4, by rw [hl4]; omega, S3, B4, acc ++ [d], c4.other ac4.nb ac4.na, (e03.trans e4).other hD0, ex3.trans e4.ex, ac5, by rw [List.length_append]; simp; omega, hinv'⟩
    · have e : i = ds.length := by omega
      subst e
      have hpn := hd acc S' hinv
      obtain ⟨ws, hw4, hr4⟩ := hacc.at_
      exact .inl ⟨w.stop B' H' as S' ex' c' hg, q Dl B' H' ws acc S' c' e' ⟨hacc.na, hD0⟩ hacc.nb hw4 hr4 hpn⟩
/-! ### statements -/
theorem sp_setCE (h : EvNE K te env S pN) (q : ∀ ds S1, pN ds S1 → SP K n u (env.set i (some (.c S1.length))) (S1 ++ [.lst ds]) P) : SP K n (tSeq (tAsg te (gName i)) u) env S P := fun B0 H0 as0 Bk B H as σ hl f c g D m =>
  h B H as σ c g _ fun p B1 H1 vs ds S1 c1 e1 hp hb h1 r1 hn => by
    have hpa := hp.1
    refine q ds S1 hn B0 H0 as0 Bk B1 H1 (as ++ [p]) _ hl ((f.step e1).push (f.evo.oldN hp.2)) (c1.push hb hpa (.ofL h1 r1)) (((g.mono e1.ex).grow).set i ?_) D m
    exact ⟨p, by rw [← c1.len]; simp, rfl⟩
theorem sp_parE (h : EvAE K tA env S pA) (q : ∀ rs S1, pA rs S1 → ∃ x y, rs = [x, y] ∧ SP K n u ((env.set i (some x)).set j (some y)) S1 P) : SP K n (tSeq (tPar i j tA) u) env S P := fun B0 H0 as0 Bk B H as σ hl f c g D m =>
  h B H as σ c g _ fun vs rs B1 H1 S1 c1 e1 r1 hp => by
    obtain ⟨x, y, rfl, k⟩ := q rs S1 hp
    cases r1 with
    | cons r1 rr =>
      cases rr with
      | cons r2 rr =>
        cases rr
        exact ⟨_, _, rfl, k B0 H0 as0 Bk B1 H1 as _ hl (f.step e1) c1 (((g.mono e1.ex).set i r1).set j r2) D m⟩
theorem sp_dropE (h : EvE K te env S post) (q : ∀ r S1, post r S1 → SP K n u env S1 P) : SP K n (tSeq (tDrop te) u) env S P := fun B0 H0 as0 Bk B H as σ hl f c g D m =>
  h B H as σ c g _ fun v r B1 H1 S1 c1 e1 r1 hp => q r S1 hp B0 H0 as0 Bk B1 H1 as _ hl (f.step e1) c1 (g.mono e1.ex) D m
theorem sp_ifE (h : EvTE K tt env S pT) (h1 : ∀ S1, pT true S1 → SP K n t env S1 P) (h2 : ∀ S1, pT false S1 → SP K n u env S1 P) : SP K n (tIfS tt t u) env S P := fun B0 H0 as0 Bk B H as σ hl f c g D m =>
  h B H as σ c g _ fun b B1 H1 S1 c1 e1 hb => by
    cases b with
    | true => exact h1 S1 hb B0 H0 as0 Bk B1 H1 as _ hl (f.step e1) c1 (g.mono e1.ex) D m
    | false => exact h2 S1 hb B0 H0 as0 Bk B1 H1 as _ hl (f.step e1) c1 (g.mono e1.ex) D m
theorem sp_ifqE {v : TS} (h : EvTE K tt env S pT) (h1 : ∀ S1, pT true S1 → SP K n (tSeq t v) env S1 P) (h2 : ∀ S1, pT false S1 → SP K n (tSeq u v) env S1 P) : SP K n (tSeq (tIfS tt t u) v) env S P := fun B0 H0 as0 Bk B H as σ hl f c g D m =>
  h B H as σ c g _ fun b B1 H1 S1 c1 e1 hb => by
    cases b with
    | true => exact h1 S1 hb B0 H0 as0 Bk B1 H1 as _ hl (f.step e1) c1 (g.mono e1.ex) D m
    | false => exact h2 S1 hb B0 H0 as0 Bk B1 H1 as _ hl (f.step e1) c1 (g.mono e1.ex) D m
/-- xs[i] = e, i by what holds of it -/
theorem sp_setitemE (h : Ev K te env S (.d d) S1) (ho : Ev K to env S1 (.c k) S2) (hi : EvE K ti env S2 post) (q : ∀ r S3, post r S3 → ∃ (iv : Int) (j : Nat) (ds : List Dat), r = .d (.int iv) ∧ S3[k]? = some (.lst ds) ∧ ixN ds.length iv = some j ∧ SP K n u env (S3.set k (.lst (ds.set j d))) P) :
    SP K n (tSeq (tAsg te (gSub to ti rSetL)) u) env S P := fun B0 H0 as0 Bk B H as σ hl f c g D m =>
  h B H as σ c g _ fun v B1 H1 c1 e1 r1 => ho B1 H1 as σ c1 (g.mono e1.ex) _ fun w B2 H2 c2 e2 r2 => hi B2 H2 as σ c2 (g.mono (e1.trans e2).ex) _ fun w3 r3 B3 H3 S3 c3 e3 rr3 hp3 => by
    obtain ⟨iv, j, ds, rfl, hs, hj, k3⟩ := q r3 S3 hp3
    obtain ⟨p, hp, rfl⟩ := r2
    cases rr3
    obtain ⟨vs, hv, rv⟩ := (c3.cells k p _ hp hs).2.lst
    have e03 := ((e1.trans e2).trans e3).trans (Evo.setc (o := .lst (vs.set j v)) (List.mem_of_getElem? hp) hv (fun _ z => nomatch z))
    exact ⟨p, vs, iv, j, rfl, rfl, hv, by rw [rv.length]; exact hj, k3 B0 H0 as0 Bk B3 _ as σ hl (f.step e03) (c3.setc hp (show CellO K B3 (.lst _) (.lst _) from Reps.set j (Rep.mono (e2.trans e3).ex r1) rv)) (g.mono e03.ex) D m⟩
theorem sp_forE {wi : TI} {g : TG} {tb : TS} {pI : List Dat → (List Addr → List Addr → List Dat → Prop) → List Dat → Prop} (hw : IterE K wi env S pI)
    (hI : ∀ ds G S1, pI ds G S1 → ∃ Inv : Nat → Env1 → List Dat → Prop, Inv 0 env S1 ∧ (∀ i env' S' as as2, Inv i env' S' → as.length = S1.length → as2.length = S'.length → as2.take n = as.take n → G as as2 S') ∧
      (∀ i d env' S', ds[i]? = some d → Inv i env' S' → ∃ is f, TgD K g d is f ∧ SP K n tb (f env') S' { P with nx := Inv (i + 1), ct := Inv (i + 1), bk := P.nx }) ∧
      (∀ env' S', Inv ds.length env' S' → P.nx env' S')) : SP K n (tFor wi g tb) env S P := fun B0 H0 as0 Bk B H as σ hl f0 c g0 D m =>
  hw B H as σ c g0 _ fun J B1 H1 ds G S1 c1 e1 hpI w => by
    obtain ⟨Inv, h0, hG, hs, hd⟩ := hI ds G S1 hpI
    subst hl
    have f1 := f0.step e1
    refine ⟨fun i mm σ' H' => mm = ds.length - i ∧ i ≤ ds.length ∧ ∃ env' S' B' as', Fr B0 H0 as0 B1 B' H' as' ∧ Ok K B' H' as' S' ∧ EnvR K B' as' σ' env' ∧ Inv i env' S', ⟨_, rfl, Nat.zero_le _, env, S1, B1, as, ⟨Evl.Ex.refl _, f1.base, f1.evo, f1.loc⟩, c1, g0.mono e1.ex, h0⟩, ?_⟩
    rintro i mm σ' H' ⟨rfl, hi, env', S', B', as', f', c', g', hinv⟩
    have ex' := f'.kn
    have hg := hG i env' S' as as' hinv c1.len c'.len (by rw [f'.base, f1.base])
    by_cases hlt : i < ds.length
    · refine .inr ⟨w.go B' H' as' S' i ex' c' hg hlt, fun σ2 H2 => ∃ env2 S2 B2 as2, Fr B0 H0 as0 B1 B2 H2 as2 ∧ Ok K B2 H2 as2 S2 ∧ EnvR K B2 as2 σ2 env2 ∧ Inv (i + 1) env2 S2, fun σ2 H2 hN => ⟨ds.length - (i + 1), by omega, rfl, hlt, hN⟩, fun x H2 hy => ?_⟩
      obtain ⟨B2, d, c2, e2, hd2, r2⟩ := w.yld B' H' as' S' i x H2 ex' c' hg hlt hy
      obtain ⟨is, f, tg, hbody⟩ := hs i d env' S' hd2 hinv
      refine tg B2 H2 as' S' σ' env' x c2 (g'.mono e2.ex) r2 _ fun σ3 g3 _ => ?_
      have f2 := f'.step e2
      refine hbody B0 H0 as0 B1 B2 H2 as' σ3 rfl f2 c2 g3 _ ⟨?_, m.rt, ?_, ?_, m.ok⟩
      · exact fun env4 S4 B4 H4 as4 σ4 f4 c4 g4 p4 => ⟨env4, S4, B4, as4, f4, c4, g4, p4⟩
      · exact fun env4 S4 B4 H4 as4 σ4 f4 c4 g4 p4 => m.nx env4 S4 B4 H4 as4 σ4 ⟨f1.kn.trans f4.kn, f4.base, f4.evo, f4.loc⟩ c4 g4 p4
      · exact fun env4 S4 B4 H4 as4 σ4 f4 c4 g4 p4 => ⟨env4, S4, B4, as4, f4, c4, g4, p4⟩
    · have e : i = ds.length := by omega
      subst e
      exact .inl ⟨w.stop B' H' as' S' ex' c' hg, m.nx env' S' B' H' as' σ' ⟨f1.kn.trans f'.kn, f'.base, f'.evo, f'.loc⟩ c' g' (hd env' S' hinv)⟩
end
end RW

set_option Elab.async false
set_option linter.all false
set_option maxRecDepth 100000
set_option maxHeartbeats 4000000
namespace RW
open PySem PySem.Spec PyProof.Rows L2
open Evl (Ex)
/-! ### keys without doubles, sorted -/
def keysF (rs : List (List Int)) : List (List Int) := rs.foldl insK []
theorem keysF_add (rs : List (List Int)) (r : List Int) : keysF (rs ++ [r]) = insK (keysF rs) r := by unfold keysF; rw [List.foldl_append]; rfl
theorem insK_mem {ks : List (List Int)} {k x : List Int} : x ∈ insK ks k ↔ x ∈ ks ∨ x = k := by
  unfold insK
  split
  · next h => exact ⟨.inl, fun z => z.elim id fun e => e ▸ h⟩
  · simp
theorem insK_nd {ks : List (List Int)} {k : List Int} (h : ks.Nodup) : (insK ks k).Nodup := by
  unfold insK
  split
  · exact h
  · next hk => exact List.nodup_append.mpr ⟨h, by simp, fun a ha b hb => by rw [List.mem_singleton.mp hb]; rintro rfl; exact hk ha⟩
theorem insK_len {ks : List (List Int)} {k : List Int} : (insK ks k).length ≤ ks.length + 1 := by
  unfold insK; split <;> simp
theorem keys_ok : ∀ (rs ks : List (List Int)), ks.Nodup → (rs.foldl insK ks).Nodup ∧ (∀ x, x ∈ rs.foldl insK ks ↔ x ∈ ks ∨ x ∈ rs) ∧ (rs.foldl insK ks).length ≤ ks.length + rs.length
  | [], ks, h => ⟨h, fun x => by simp, by simp⟩
  | r :: rs, ks, h => by
    obtain ⟨h1, h2, h3⟩ := keys_ok rs (insK ks r) (insK_nd h)
    refine ⟨h1, fun x => ?_, ?_⟩
    · rw [List.foldl_cons, h2, insK_mem, List.mem_cons, or_assoc]
    · rw [List.foldl_cons, List.length_cons]
      have := insK_len (ks := ks) (k := r)
      omega
def sortF (ks : List (List Int)) : List (List Int) := ks.mergeSort fun a b => decide (RwS.rk ks a ≤ RwS.rk ks b)
theorem sortF_perm (ks : List (List Int)) : (sortF ks).Perm ks := List.mergeSort_perm _ _
theorem sortF_pw {ks : List (List Int)} {n : Nat} (hl : ∀ r ∈ ks, r.length = n) : (sortF ks).Pairwise fun x y => RwS.lx y x = false := by
  have h := List.pairwise_mergeSort (le := fun a b => decide (RwS.rk ks a ≤ RwS.rk ks b)) (fun a b c h1 h2 => by simp only [decide_eq_true_eq] at *; omega) (fun a b => by simp only [Bool.or_eq_true, decide_eq_true_eq]; omega) ks
  refine List.Pairwise.imp_of_mem (fun {x y} hx hy hxy => ?_) h
  have hx := (sortF_perm ks).mem_iff.mp hx
  have hy := (sortF_perm ks).mem_iff.mp hy
  have := RwS.rk_lt hy (y := x) (by rw [hl _ hx, hl _ hy])
  cases e : RwS.lx y x with
  | false => rfl
  | true =>
    have := this.mp e
    have hxy : RwS.rk ks x ≤ RwS.rk ks y := of_decide_eq_true hxy
    omega
theorem sortF_uniq {ks : List (List Int)} {n : Nat} (hl : ∀ r ∈ ks, r.length = n) (rs : List (List Int)) (hp : rs.Perm ks) (hw : rs.Pairwise fun x y => RwS.lx y x = false) : rs = sortF ks := by
  refine List.Perm.eq_of_pairwise (le := fun x y => RwS.lx y x = false) (fun a b ha hb h1 h2 => ?_) hw (sortF_pw hl) (hp.trans (sortF_perm ks).symm)
  have la := hl _ (hp.mem_iff.mp ha)
  have lb := hl _ ((sortF_perm ks).mem_iff.mp hb)
  rcases RwS.lx_tri (x := a) (y := b) (by omega) with h | h | h
  · rw [h] at h2; cases h2
  · exact h
  · rw [h] at h1; cases h1
theorem sortF_asc {ks : List (List Int)} {n : Nat} (nd : ks.Nodup) (hl : ∀ r ∈ ks, r.length = n) : (sortF ks).Pairwise fun x y => RwS.lx x y = true := by
  have hn : (sortF ks).Nodup := (sortF_perm _).nodup_iff.mpr nd
  refine List.Pairwise.imp_of_mem (fun {x y} hx hy hxy => ?_) ((sortF_pw hl).and hn)
  have hx := (sortF_perm ks).mem_iff.mp hx
  have hy := (sortF_perm ks).mem_iff.mp hy
  rcases RwS.lx_tri (x := x) (y := y) (by rw [hl _ hx, hl _ hy]) with h | h | h
  · exact h
  · exact absurd h hxy.2
  · rw [h] at hxy; cases hxy.1
/-! ### what is drawn from -/
abbrev Vt := Int × Int × Int
def vatD (v : Vt) : Dat := .lst [.int v.1, .int v.2.1, .int v.2.2]
theorem set_get {S : List Dat} {k : Nat} {d e : Dat} (h : S[k]? = some d) : (S.set k e)[k]? = some e := List.getElem?_set_self (List.getElem?_eq_some_iff.mp h).1
theorem set_id {S : List Dat} {k : Nat} {d : Dat} (h : S[k]? = some d) : S.set k d = S := by
  obtain ⟨hl, e⟩ := List.getElem?_eq_some_iff.mp h
  rw [← e]; exact List.set_getElem_self hl
section
variable {S : List Dat} {k : Nat} {x x' y y' : Dat}
theorem gk (h : k < S.length) : (S.set k x ++ [y])[k]? = some x := by
  rw [List.getElem?_append_left (by simpa using h), List.getElem?_set_self h]
theorem gn : (S.set k x ++ [y])[S.length]? = some y := by
  rw [List.getElem?_append_right (by simp)]
  simp
theorem sk (h : k < S.length) : (S.set k x ++ [y]).set k x' = S.set k x' ++ [y] := by
  rw [List.set_append_left _ _ (by simpa using h), List.set_set]
theorem sn : (S.set k x ++ [y]).set S.length y' = S.set k x ++ [y'] := by
  rw [List.set_append_right _ _ (by simp)]
  simp
end
theorem atI_n {α : Type} {xs : List α} {p : Nat} (h : p < xs.length) : atI xs (p : Int) = some xs[p] := by
  unfold atI
  rw [ixN_of h]
  exact List.getElem?_eq_getElem h
theorem op2_ixS {K : PySem.W.Frag} {S : List Dat} {ns : List Int} {i : Int} {u : Int} (h : atI (ns.map V.int) i = some (V.int u)) : Op2 K (rIx K) (.d (.scr ns)) (.d (.int i)) S (.int u) := fun B H as v w c h1 h2 Q q => by
  cases h2
  cases h1 with
  | scr h1 => exact .inl ⟨_, _, i, _, rfl, rfl, Evl.ex_l c.ex h1, h, q _ B H c Evo.refl (.int u)⟩
theorem raw_set {K : PySem.W.Frag} {te : TE} {env : Env1} {S S1 : List Dat} {x : Sl} {i : Nat} {u : TS} {D : Ends} {B H : Hp} {as : List Addr} {σ : L2.St} (h : Ev K te env S x S1) (c : Ok K B H as S) (g : EnvR K B as σ env)
    (q : ∀ B1 H1 v, Ok K B1 H1 as S1 → Evo B H as B1 H1 → EnvR K B1 as (σ.set i (some v)) (env.set i (some x)) → u D (σ.set i (some v)) H1) : tSeq (tAsg te (gName i)) u D σ H :=
  h B H as σ c g _ fun v B1 H1 c1 e1 r1 => q B1 H1 v c1 e1 ((g.mono e1.ex).set i r1)
theorem raw_retN {K : PySem.W.Frag} {te : TE} {env : Env1} {S S1 ds : List Dat} {D : Ends} {B H : Hp} {as : List Addr} {σ : L2.St} (h : EvN K te env S ds S1) (c : Ok K B H as S) (g : EnvR K B as σ env)
    (q : ∀ p B' H' vs, Ok K B' H' as S1 → Evo B H as B' H' → Fresh H as p → B' p = none → H' p = some (.lst vs) → Reps K B' vs ds → D.rt (.ref p) H') : tRet te D σ H := h B H as σ c g _ q
/-- a drawn number, and what follows -/
def gDraw (ss : List Sl) (S : List Dat) (post : Dat → List Dat → Prop) : Prop := ∃ (k : Nat) (v : Vt) (t : Int), ss = [.c k, .d (.int t)] ∧ S[k]? = some (vatD v) ∧ 0 < t ∧ t < 2 ^ 100 ∧ post = fun r T => ∃ i v', r = .int i ∧ 0 ≤ i ∧ i < t ∧ T = S.set k (vatD v')
/-- one of several, drawn -/
def gPick (ss : List Sl) (S : List Dat) (post : Dat → List Dat → Prop) : Prop := ∃ (k : Nat) (v : Vt) (d : Dat) (ds : List Dat), ss = [.c k, .d d] ∧ (d = .lst ds ∨ d = .tup ds) ∧ S[k]? = some (vatD v) ∧ ds ≠ [] ∧ ds.length ≤ 100000 ∧ post = fun r T => r ∈ ds ∧ ∃ v', T = S.set k (vatD v')
def gVat (ss : List Sl) (S : List Dat) (r : List Dat) (S' : List Dat) (vatF : List Int → Nat → Vt) : Prop := ∃ (ns : List Int) (i : Nat), ss = [.d (.scr ns), .d (.int i)] ∧ r = [.int (vatF ns i).1, .int (vatF ns i).2.1, .int (vatF ns i).2.2] ∧ S' = S
section
variable {K : PySem.W.Frag} {tA : TA} {env : Env1} {S S1 : List Dat} {ss : List Sl} {post : Sl → List Dat → Prop} {E : XK}
/-- f(..), the arguments told, the result by what holds of it -/
theorem eve_callA {G : List Sl → List Dat → (Dat → List Dat → Prop) → Prop} {po : Dat → List Dat → Prop} (h : EvA K tA env S ss S1) (hg : G ss S1 po) (q : ∀ r T, po r T → post (.d r) T) : EvE K (tCall (SpE K G) [] E tA) env S post :=
  eve_call (EvA.ofEv h) fun ss' S1' ⟨e1, e2⟩ => ⟨po, by rw [e1, e2]; exact hg, q⟩
theorem eve_callDA {G : List Sl → List Dat → Dat → List Dat → Prop} {d : Dat} {S2 : List Dat} (h : EvA K tA env S ss S1) (hg : G ss S1 d S2) (q : post (.d d) S2) : EvE K (tCall (SpD K G) [] E tA) env S post := (ev_call h hg).e1 q
end
section
variable {K : PySem.W.Frag} {n : Nat} {te to ti : TE} {tA : TA} {env : Env1} {S S1 S2 S3 : List Dat} {d : Dat} {P : Post} {k i : Nat} {u : TS}
theorem IterE.imp {wi : TI} {p q : List Dat → (List Addr → List Addr → List Dat → Prop) → List Dat → Prop} (h : IterE K wi env S p) (hq : ∀ ds G T, p ds G T → q ds G T) : IterE K wi env S q := fun B H as σ c g R kk =>
  h B H as σ c g R fun J B1 H1 ds G S1 c1 e1 hp w => kk J B1 H1 ds G S1 c1 e1 (hq ds G S1 hp) w
/-- a comprehension whose elements are drawn one after another -/
theorem ene_vat {α : Type} (F : α → Dat) (p : α → Prop) {pI : List Dat → Prop} {wi : TI} {g : TG} {vs is : List Nat} {f : Dat → Env1 → Env1}
    (hw : IterE K wi env S (fun ds G T => pI ds ∧ G = G0 ∧ ∃ v, T = S.set k (vatD v))) (hl : ∀ ds, pI ds → ds.length ≤ sizeLine)
    (hs : ∀ ds d v, pI ds → d ∈ ds → TgD K g d is (f d) ∧ (∀ i ∈ is, i ∈ vs) ∧ EvE K te (f d (wipeE env vs)) (S.set k (vatD v)) (fun r T => ∃ a v', r = .d (F a) ∧ p a ∧ T = S.set k (vatD v'))) :
    EvNE K (tLc wi g tYes te vs) env S (fun rs T => ∃ (ds : List Dat) (as : List α) (v' : Vt), pI ds ∧ rs = as.map F ∧ as.length = ds.length ∧ (∀ a ∈ as, p a) ∧ T = S.set k (vatD v')) := by
  refine ene_lc hw (fun ds S1 i acc S' => ∃ (as : List α) (v' : Vt), acc = as.map F ∧ as.length = i ∧ (∀ a ∈ as, p a) ∧ S' = S.set k (vatD v')) fun ds G S1 ⟨hp, hG, v0, hv0⟩ => ⟨hl ds hp, ⟨[], v0, rfl, rfl, fun a h => (List.not_mem_nil h).elim, hv0⟩, fun _ _ _ _ _ _ _ => by rw [hG]; trivial, fun i d acc S' hd ⟨as, v, e1, e2, e3, e4⟩ => ?_, fun acc S2 ⟨as, v, e1, e2, e3, e4⟩ => ⟨ds, as, v, hp, e1, e2, e3, e4⟩⟩
  obtain ⟨tg, his, he⟩ := hs ds d v hp (List.mem_of_getElem? hd)
  subst e4
  refine ⟨is, f d, fun b T => b = true ∧ T = S.set k (vatD v), tg, his, et_yes.ofEv, fun S2 h => ?_, fun S2 h => by cases h.1⟩
  rw [h.2]
  refine he.imp fun r T ⟨a, v', h1, h2, h3⟩ => ⟨F a, h1, as ++ [a], v', by rw [e1, List.map_append]; rfl, by rw [List.length_append, e2]; rfl, fun b hb => ?_, h3⟩
  rcases List.mem_append.mp hb with hb | hb
  · exact e3 b hb
  · rw [List.mem_singleton.mp hb]; exact h2
/-- d[tuple(xs)] = e, xs a new list of numbers, known by what holds of it -/
theorem sp_stD1E {pN : List Dat → List Dat → Prop} (h : Ev K te env S (.d d) S1) (ho : Ev K to env S1 (.c k) S2) (hx : EvNE K ti env S2 pN) (hq : ∀ ds S3, pN ds S3 → ∃ (ns : List Int) (ks : List (List Int)), ds = ns.map Dat.int ∧ S3[k]? = some (.dic ks) ∧ ks.length < sizeLine ∧ P.nx env (S3.set k (.dic (insK ks ns)))) :
    SP K n (tAsg te (gSub to (tCB (rTupD K) (tCons ti tNil)) rSetD)) env S P := fun B0 H0 as0 Bk B H as σ hl0 f0 c g D m =>
  h B H as σ c g _ fun v B1 H1 c1 e1 r1 => ho B1 H1 as σ c1 (g.mono e1.ex) _ fun w B2 H2 c2 e2 r2 => hx B2 H2 as σ c2 (g.mono (e1.trans e2).ex) _ fun l B3 H3 vs ds S3 c3 e3 hl2 hb3 hl3 r3 hp3 => by
    obtain ⟨ns, ks, rfl, hs, hl, hq⟩ := hq ds S3 hp3
    obtain ⟨p, hp, rfl⟩ := r2
    have ei := r3.ints
    subst ei
    refine ⟨l, _, rfl, .inl ⟨Evl.sq_of hl3, fun tp htp => ?_⟩⟩
    have c4 := c3.new (o := .tup (ns.map V.int)) htp
    have e4 := Evo.new (o := .tup (ns.map V.int)) c3 htp
    obtain ⟨kvs, hkv, hks⟩ := (c4.cells k p _ hp hs).2.dic
    have e05 := (((e1.trans e2).trans e3).trans e4).trans (Evo.setc (o := .dT (putK kvs (ns.map Sum.inl) v)) (List.mem_of_getElem? hp) hkv (fun _ z => nomatch z))
    refine ⟨p, _, rfl, .inr ⟨kvs, ns.map Sum.inl, tp, hkv, rfl, by rw [key_ints]; exact upd_same, ?_, rfl⟩, ?_⟩
    · have := congrArg List.length hks
      rw [List.length_map, List.length_map] at this
      omega
    · exact m.nx _ _ _ _ as σ (f0.step e05) (c4.setc hp (show CellO K _ (.dT _) (.dic _) from putK_keys hks)) (g.mono e05.ex) hq
end
theorem call_isiK {X : Cx} (K : PySem.W.Frag) (hK : X.K = K := by rfl) : CallR X (.builtin "isinstance") (rIsi K) := by
  subst hK
  exact call_isi
section
variable {K : PySem.W.Frag} {n : Nat} {te to : TE} {env : Env1} {S S1 : List Dat} {P : Post} {k i : Nat} {post post' : Sl → List Dat → Prop} {pN : List Dat → List Dat → Prop}
/-- xs.append(e), e by what holds of it -/
theorem ev_appendE (ho : Ev K to env S (.c k) S1) (h : EvE K te env S1 post) (h1 : ∃ es, S1[k]? = some (.lst es)) (q : ∀ r T, post r T → ∃ d ds, r = .d d ∧ T[k]? = some (.lst ds) ∧ ds.length < sizeLine ∧ post' (.d .non) (T.set k (.lst (ds ++ [d])))) :
    EvE K (tBM K "list" rAppend to (tCons te tNil)) env S post' := fun B H as σ c g Q q0 =>
  ho B H as σ c g _ fun v B1 H1 c1 e1 r1 => by
    obtain ⟨p, hp, rfl⟩ := r1
    obtain ⟨es, hes⟩ := h1
    obtain ⟨ws, hw, rw'⟩ := (c1.cells k p _ hp hes).2.lst
    refine ⟨.inl ⟨rfl, ws, Evl.sq_of hw⟩, h B1 H1 as σ c1 (g.mono e1.ex) _ fun v r B2 H2 T c2 e2 r2 hp2 => ?_⟩
    obtain ⟨d, ds, rfl, hs, hl, hq⟩ := q r T hp2
    obtain ⟨vs, hv, rv⟩ := (c2.cells k p _ hp hs).2.lst
    exact ⟨p, vs, v, rfl, rfl, hv, by rw [rv.length]; exact hl, q0 .non (.d .non) B2 _ (T.set k (.lst (ds ++ [d]))) (c2.setc hp (show CellO K B2 (.lst _) (.lst _) from rv.append (.cons r2 .nil))) ((e1.trans e2).trans (Evo.setc (List.mem_of_getElem? hp) hv (fun _ z => nomatch z))) .non hq⟩
theorem sp_dropE1 (h : EvE K te env S post) (q : ∀ r S1, post r S1 → P.nx env S1) : SP K n (tDrop te) env S P := fun B0 H0 as0 Bk B H as σ hl f c g D m =>
  h B H as σ c g _ fun v r B1 H1 S1 c1 e1 r1 hp => m.nx _ S1 B1 H1 as _ (f.step e1) c1 (g.mono e1.ex) (q r S1 hp)
theorem sp_setC1 {ds : List Dat} (h : EvN K te env S ds S1) (q : P.nx (env.set i (some (.c S1.length))) (S1 ++ [.lst ds])) : SP K n (tAsg te (gName i)) env S P := fun B0 H0 as0 Bk B H as σ hl f c g D m =>
  h B H as σ c g _ fun p B1 H1 vs c1 e1 hp hb h1 r1 => by
    have hpa := hp.1
    refine m.nx _ _ B1 H1 (as ++ [p]) _ ((f.step e1).push (f.evo.oldN hp.2)) (c1.push hb hpa (.ofL h1 r1)) (((g.mono e1.ex).grow).set i ?_) q
    exact ⟨p, by rw [← c1.len]; simp, rfl⟩
end
end RW

set_option Elab.async false
set_option linter.all false
set_option maxRecDepth 100000
set_option maxHeartbeats 4000000
/-! ### raise X(value); a caught exception handed to a def; isinstance of it -/
namespace RW
open PySem PySem.Spec PyProof.Rows L2
open Evl (Ex)
section
variable {X : Cx} {C : Addr} {bmB : List Value} {B newId initId : String}
/-- X(e), X an own class without own __init__ -/
theorem pmk_ownV {x : Str} {p pos : Pos} {e : Expr} {te : TE} (F : ExcBaseFacts B newId initId bmB) (q : PySem.W.excIn X.K C bmB newId = true) (gC : X.mg x = some (.ref C)) (kC : PySem.W.keepIn X.K (.ref C) = true) (r : Raises X (.ref C)) (hg : Gl X x)
    (he : PE X e te) (hdb : (x == ("__debug__" : Str)) = false := by decide) (hs : starEach [e] X.env = (false, eval e X.env) :: starEach [] X.env := by rfl) (hpl : (backTo pos (starEach ([] : List Expr) X.env)).any (·.1) = false := by rfl) :
    PMk X (.Call (.Name x p) [e] [] pos) (fun σ H Q => te σ H fun _ H1 => Q (.ref C) none H1) := by
  intro pins s σ H Q I h
  have ha : PA X [e] (tCons te tNil) := pa_cons he pa_nil hs
  refine wpAny_Call_Name_kw (ld_glob I hg gC (PySem.W.callWith_K (h₀ := X.base) I.ok.mod.kin kC (thn (ha.run pos pins s σ H (fun vs H1 => vs.length = 1 ∧ Q (.ref C) none H1) I ?_) fun us s1 hh => ?_) hs hpl) hdb)
  · have mono : ∀ {Q1 Q2 : VK}, (∀ v H1, Q1 v H1 → Q2 v H1) → True := fun _ => trivial
    show te σ H fun x H1 => tNil σ H1 fun xs H2 => (x :: xs).length = 1 ∧ Q (.ref C) none H2
    have e : (fun (x : V) (H1 : Hp) => tNil σ H1 fun xs H2 => (x :: xs).length = 1 ∧ Q (.ref C) none H2) = fun _ H1 => Q (.ref C) none H1 := by
      funext x H1
      exact propext ⟨fun z => z.2, fun z => ⟨rfl, z⟩⟩
    rw [e]; exact h
  · obtain ⟨vs, H1, I1, r1, hl, q1⟩ := hh
    refine ⟨I1.kIn, ?_⟩
    show wpAny _ _ (call (.ref C) us) _ _ _
    obtain ⟨bm, N, nm, qn, bs, hdct, sn, sub, ab, col, dd, k0, k1, k2, k3, k5, mN, hC, hN, hni, T⟩ := exc_obj I1.kIn q
    have hu : us.length = 1 := by rw [← r1.length, hl]
    refine PySem.wpAny_call_exc_subT F T hC hN hni (fun h' e hm => ?_) (by rw [hu, sizeLine_eq]; omega)
    exact mk_of I1 hm r q1 (I1.hok.gone hm.new)
end
/-! a def that is handed the exception that is handled: p is its object, cls its class, d its dict -/
abbrev SpX := Addr → Value → Option Addr → Sp
structure FnP (P : Program) (w : World) (K : PySem.W.Frag) (mg : Str → Option Value) (base : Heap) (cx : CXT) (k : Nat) (f : Addr) (fd : FuncData) (ps : List Str) (sp : SpX) : Prop where
  len : ∀ a cls d vs H Q E, sp a cls d vs H Q E → vs.length = ps.length
  run : ∀ (A : Around) (outer : List Env) (s : Shared) (H : Hp) (args : Args) (us : List Value) (vs : List V) (Q : VK) (E : XK) (p : Addr × Obj) (cls : Value) (d : Option Addr), Zc cls d p.2 → (∃ ws, p.2.data = .fields ws) → L2H.RoomH k A → L2H.PinOk outer H s p →
    Env0 P w K mg base A outer s H → BindsTo s fd args (ps.zip us) → Vals vs us → sp p.1 cls d vs H Q E → codeAny (model P w) A (.call (.ref f) args) (CR cx outer P w H s Q E) s
section
variable {P : Program} {w : World} {K : PySem.W.Frag} {mg : Str → Option Value} {base : Heap} {cx : CXT} {k : Nat} {f : Addr} {fd : FuncData} {ps : List Str}
theorem fnp_body {name qual : Str} {prm : Arguments} {body : List Stmt} {sc : Scope} {v1 v2 v3 v4 cdv ct oc : Value} {an od : Option Addr} {osl : Array (Option Value)} {N : List Str} {sp : SpX}
    (lk : K.lookup f = some ⟨oc, od, .func (PySem.W.fnOf name qual prm body sc v1 v2 v3 v4 an cdv ct), osl⟩) (hcd : PySem.W.codeIn K cdv qual = true) (S : FnScope N ps sc) (len : ∀ a cls d vs H Q E, sp a cls d vs H Q E → vs.length = ps.length)
    (hb : ∀ (A : Around) (up : List Env) (t : Shared) (H : Hp) (xs : List V) (Q : VK) (E : XK) (p : Addr × Obj) (cls : Value) (d : Option Addr), Zc cls d p.2 → (∃ ws, p.2.data = .fields ws) → L2H.RoomH k (A.deeper (envOfC qual sc t.heap.objs.size f cdv)) → sp p.1 cls d xs H Q E →
      ∃ r, PSs (L2H.cxH cx P w K mg base N qual sc f cdv A up t H E p) body r ∧ r { rt := Q, nx := fun _ T => Q .non T } (start N xs) H) :
    FnP P w K mg base cx (k + 1) f (PySem.W.fnOf name qual prm body sc v1 v2 v3 v4 an cdv ct) ps sp where
  len := len
  run := fun A up t H args us xs Q E p cls d hz hf hr hp e0 hargs rv hsp => by
    have hK : K.In t.heap := e0.mod.kin.keeps fun a o h => (e0.bs a o h).1
    refine codeAny_call_function hr.depth (hK _ _ lk) rfl S.co S.gen rfl (PySem.W.codeRec_of hK hcd) (hargs _ _ _ _ (wpAny_newFunctionEnv_cells S.kind (fun z hz => ?_) fun env he t1 fresh => ?_))
    · have hp := (List.of_mem_zip (show (z.1, z.2) ∈ ps.zip us from hz)).1
      exact (S.par _ hp).imp id fun h => ⟨h, PySem.W.cellsFrom_some _ _ _ (.inl h)⟩
    · subst he
      have hno : t.heap.NoLimit := e0.mod.nolimit.keeps fun a o h => (e0.bs a o h).1
      obtain ⟨r, hpr, hq⟩ := hb A up t H xs Q E p cls d hz hf (hr.deeper _) hsp
      have J := L2H.inv_startH (CX := cx) (E := E) S hp e0 (len _ _ _ _ _ _ _ hsp) rv fresh
      refine ⟨hno.keeps fresh.toInCall.keep, codeAny_func (wpAny_mono (hpr.run [] t1 _ H _ J hq) (fun fl t2 z => ?_) fun _ _ z => z)⟩
      cases fl with
      | next =>
        obtain ⟨_, H2, I2, q2⟩ := z
        exact ⟨.non, H2, I2.os, I2.bare, I2.base, I2.hok, rfl, q2⟩
      | ret u =>
        obtain ⟨x, _, H2, I2, ru, q2⟩ := z
        exact ⟨x, H2, I2.os, I2.bare, I2.base, I2.hok, ru, q2⟩
      | brk =>
        obtain ⟨_, _, _, no⟩ := z
        exact no.elim
      | cont =>
        obtain ⟨_, _, _, no⟩ := z
        exact no.elim
end
section
variable {X : Cx} {cx : CXT} {k : Nat} {f : Addr} {fd : FuncData} {ps : List Str} {sp : SpX} {E : XK} {x : Str} {q pos : Pos} {e : Expr} {es : List Expr} {t : TA} {p : Addr × Obj} {cls : Value} {d : Option Addr}
theorem pe_callP (F : FnP X.prog X.w X.K X.mg X.base cx k f fd ps sp) (hr : L2H.RoomH k X.A) (hp : p ∈ X.pn) (hz : Zc cls d p.2) (hf : ∃ ws, p.2.data = .fields ws) (hg : Gl X x) (hm : X.mg x = some (.ref f)) (hk : PySem.W.keepIn X.K (.ref f) = true) (hb : L2.Binds X.K fd ps []) (hx : Passes cx X E) (ha : PA X (e :: es) t)
    (hdb : (x == ("__debug__" : Str)) = false := by decide) (he : starEach (e :: es) X.env = (false, eval e X.env) :: starEach es X.env := by rfl) (hpl : (backTo pos (starEach es X.env)).any (·.1) = false := by rfl) :
    PE X (.Call (.Name x q) (e :: es) [] pos) (tCall (sp p.1 cls d) [] E t) := ⟨fun pins s σ H Q I h => by
  refine wpAny_Call_Name_kw (ld_glob I hg hm (PySem.W.callWith_K (h₀ := X.base) I.ok.mod.kin hk (thn (ha.run pos pins s σ H _ I h) fun us s1 q1 => ?_) he hpl) hdb)
  obtain ⟨xs, H1, I1, rv, hs⟩ := q1
  rw [List.append_nil] at hs
  have hn : us.length = ps.length := rv.length.symm.trans (F.len _ _ _ _ _ _ _ hs)
  have hbt : BindsTo s1 fd ⟨us, []⟩ (ps.zip us) := by
    have z := hb s1 us I1.kIn (by rw [List.append_nil]; exact hn)
    rwa [List.append_nil] at z
  have P1 := I1.pin p (List.mem_append_left _ hp)
  have hpin : L2H.PinOk X.stack H1 s1 p := ⟨P1.1, P1.2.1, fun hm => (List.mem_cons.mp (I1.stkSub p.1 hm)).elim P1.2.2.1 P1.2.2.2.1, P1.2.2.2.2⟩
  refine ⟨I1.kIn, wpAny_call (codeAny_mono (F.run X.A X.stack s1 H1 ⟨us, []⟩ us xs Q E p cls d hz hf hr hpin I1.env0 hbt rv hs) fun r s2 hq => ?_)⟩
  rcases r with err | fl
  · exact hx pins σ H1 s1 err s2 I1 hq
  · cases fl <;> first | exact I1.after hq | exact hq.elim⟩
end
/-! what stays where the heap only grows -/
section
variable {K : PySem.W.Frag} {B H H' : Hp} {as : List Addr} {S : List Dat}
theorem Ok.ext (c : Ok K B H as S) (e : Ex H H') : Ok K B H' as S :=
  ⟨c.ex.trans e, c.len, fun k a s h1 h2 => ⟨(c.cells k a s h1 h2).1, let ⟨o, ho, co⟩ := (c.cells k a s h1 h2).2; ⟨o, e _ _ ho, co⟩⟩, c.nd, fun k a s o h1 h2 h3 => by
    obtain ⟨o', ho, _⟩ := (c.cells k a s h1 h2).2
    have : o = o' := Option.some.inj (h3.symm.trans (e _ _ ho))
    subst this
    exact c.lk k a s o h1 h2 ho, c.ntb, c.tb⟩
theorem Evo.ext (e : Ex H H') : Evo B H as B H' :=
  ⟨Evl.Ex.refl B, fun a o _ h _ => e a o h, fun _ _ _ _ => .inl rfl, fun a o _ h => e a o h, fun a o h n => ⟨o, e a o h, n⟩⟩
/-- a new object that is known from now on -/
theorem Ok.grown {l : Addr} {o : HO} (c : Ok K B H as S) (e : Ex H H') (hn : H l = none) (hl : H' l = some o) (ht : ∀ ps, o ≠ .tbl ps) : Ok K (upd B l o) H' as S ∧ Evo B H as (upd B l o) H' := by
  have hB : B l = none := c.Bnone hn
  have hx : Ex B (upd B l o) := Evl.Ex.new hB
  have off : ∀ (k : Nat) (a : Addr) (s : Dat), as[k]? = some a → S[k]? = some s → a ≠ l := fun k a s h1 h2 z => by
    obtain ⟨o', ho, _⟩ := (c.cells k a s h1 h2).2
    rw [z, hn] at ho; cases ho
  have c1 := c.ext e
  refine ⟨⟨fun a u h => ?_, c.len, fun k a s h1 h2 => ⟨?_, let ⟨o', ho, co⟩ := (c1.cells k a s h1 h2).2; ⟨o', ho, co.mono hx⟩⟩, c.nd, c1.lk, fun a ps z => ?_, c.tb⟩, hx, fun a u _ h _ => e a u h, fun a u h _ => .inl ?_, fun a u _ h => e a u h, fun a u h n => ⟨u, e a u h, n⟩⟩
  · by_cases q : a = l
    · rw [q, upd_same] at h; rw [q, hl]; exact h
    · rw [upd_ne q] at h; exact c1.ex a u h
  · rw [upd_ne (off k a s h1 h2)]; exact (c.cells k a s h1 h2).1
  · by_cases q : a = l
    · rw [q, upd_same] at z; exact ht ps (Option.some.inj z)
    · rw [upd_ne q] at z; exact c.ntb a ps z
  · have : a ≠ l := fun z => by rw [z, hn] at h; cases h
    rw [upd_ne this]
end
/-! which clause takes it -/
section
variable {K : PySem.W.Frag} {Wout : WX} {D : Ends} {cls : Value} {d : Option Addr} {σ : L2.St} {H : Hp}
theorem mix_here {c : Clause} {post : List Clause} : ∀ {pre : List Clause}, (∀ x ∈ pre, PySem.W.exmOne K cls x.1 = some false) → PySem.W.exmOne K cls c.1 = some true → (∀ a, H a = none → suiteRun D c.2.1 (c.2.2 a cls d) a σ H) → wMix K Wout D (pre ++ c :: post) cls d σ H
  | [], _, h2, h3 => by
    obtain ⟨v, i, ts⟩ := c
    exact ⟨true, h2, fun _ => h3, fun z => nomatch z⟩
  | (v, i, ts) :: pre, h1, h2, h3 => ⟨false, h1 _ List.mem_cons_self, (fun z => nomatch z), fun _ => mix_here (fun x hx => h1 x (List.mem_cons_of_mem _ hx)) h2 h3⟩
end
/-- none of these takes it -/
def Ems (K : PySem.W.Frag) (cls : Value) : List Addr → Prop
  | [] => True
  | D :: r => PySem.W.exmOne K cls (.ref D) = some false ∧ Ems K cls r
theorem ems_all {K : PySem.W.Frag} {cls : Value} : ∀ {Ds : List Addr} {cs : List Clause}, cs.map (·.1) = Ds.map Value.ref → Ems K cls Ds → ∀ x ∈ cs, PySem.W.exmOne K cls x.1 = some false
  | [], [], _, _, x, hx => by cases hx
  | D :: Ds, c :: cs, h, q, x, hx => by
    simp only [List.map_cons, List.cons.injEq] at h
    rcases List.mem_cons.mp hx with rfl | hx
    · rw [h.1]; exact q.1
    · exact ems_all h.2 q.2 x hx
  | [], _ :: _, h, _, _, _ => by simp at h
  | _ :: _, [], h, _, _, _ => by simp at h
/-! isinstance of a pinned exception -/
structure XkC (K : PySem.W.Frag) (C : Addr) : Prop where
  ic : PySem.W.isClsIn K C = true
  ga : PySem.W.findIn K (.ref C) "__getattribute__" = some (some (.builtin "BaseException.__getattribute__"))
  gg : PySem.W.findIn K (.ref C) "__getattr__" = some none
  be : PySem.W.subIn K (.ref C) (.type "BaseException") = some true
  ca : PySem.W.findIn K (.ref C) "__class__" = some (some (.builtin "object.__class__"))
  cn : PySem.W.specialIn K (.builtin "object.__class__") "__get__" = some (some (.builtin "getset_descriptor.__get__"))
  ct : PySem.W.takesIn K (.builtin "object.__class__") = some true
  cm : PySem.W.mroIn K C (.type "object") = some true
def DictAt (H : Hp) : Option Addr → Prop
  | none => True
  | some dd => ∃ fs, H dd = some (.xd fs)
def rIsiP (K : PySem.W.Frag) (a C : Addr) (d : Option Addr) : List V → Hp → VK → Prop := fun xs H Q => ∃ (c : V) (u : Value) (b : Bool), xs = [.ref a, c] ∧ ClsV c u ∧ DictAt H d ∧ PySem.W.kitOne K (.ref C) u = some b ∧ Q (.bl b) H
theorem call_isiP {X : Cx} {a C : Addr} {oe : Obj} {d : Option Addr} (K : PySem.W.Frag) (T : XkC K C) (hp : (a, oe) ∈ X.pn) (hz : Zc (.ref C) d oe) (hf : ∃ vs, oe.data = .fields vs) (hK : X.K = K := by rfl) : CallR X (.builtin "isinstance") (rIsiP K a C d) := by
  subst hK
  intro pins s σ H xs us Q I r h
  obtain ⟨c, u, b, rfl, k, hd, e, q⟩ := h
  obtain ⟨u1, u2, rfl, r1, r2⟩ := vals2 r
  have e2 := k.eq r2
  subst e2
  obtain rfl : u1 = Value.ref a := r1
  obtain ⟨ha, _⟩ := I.pin (a, oe) (List.mem_append_left _ hp)
  obtain ⟨vs, hdt⟩ := hf
  have hn : PySem.W.notCls oe = true := by unfold PySem.W.notCls; rw [hdt] <;> rfl
  cases d with
  | none =>
    have J : PySem.W.InstAt s.heap a oe C none := ⟨ha, hz.1, hn, by rw [hz.2]; trivial⟩
    exact PySem.W.kia_one (PySem.W.kitx_exc T.ic T.ga T.gg T.be T.ca T.cn T.ct T.cm) I.kIn J e (fun z => nomatch z) fun tk => ⟨.bl b, H, I.tok tk, rfl, q⟩
  | some dd =>
    obtain ⟨fs, hx⟩ := hd
    obtain ⟨mA, hns, hr⟩ := (show ObjOk X.prog X.w H s.heap dd (.xd fs) from I.hok dd _ hx)
    obtain ⟨od, ho, hl⟩ := lookIn_ns hns
    have J : PySem.W.InstAt s.heap a oe C (some od) := ⟨ha, hz.1, hn, by rw [hz.2]; exact ho⟩
    exact PySem.W.kia_one (PySem.W.kitx_exc T.ic T.ga T.gg T.be T.ca T.cn T.ct T.cm) I.kIn J e (fun z => nomatch z) fun tk => ⟨.bl b, H, I.tok tk, rfl, q⟩
/-- isinstance asked of seven classes -/
structure RootsOk (K : PySem.W.Frag) (C D : Addr) (bs : List Bool) : Prop where
  all : ∃ b0 b1 b2 b3 b4 b5 b6, bs = [b0, b1, b2, b3, b4, b5, b6] ∧ PySem.W.kitOne K (.ref C) (.type "ValueError") = some b0 ∧ PySem.W.kitOne K (.ref C) (.type "IndexError") = some b1 ∧ PySem.W.kitOne K (.ref C) (.type "KeyError") = some b2 ∧
    PySem.W.kitOne K (.ref C) (.type "OverflowError") = some b3 ∧ PySem.W.kitOne K (.ref C) (.type "ArithmeticError") = some b4 ∧ PySem.W.kitOne K (.ref C) (.type "LookupError") = some b5 ∧ PySem.W.kitOne K (.ref C) (.ref D) = some b6
theorem kit1_ty {K : PySem.W.Frag} {C : Addr} {T : String} {b : Bool} (m : PySem.W.kitMeta T = true) (h : PySem.W.subIn K (.ref C) (.type T) = some b) : PySem.W.kitOne K (.ref C) (.type T) = some b := by
  unfold PySem.W.kitOne
  rw [if_neg (by simp)]
  unfold PySem.W.kitCls
  dsimp only
  rw [if_pos m, h]
theorem kit1_own {K : PySem.W.Frag} {C D : Addr} {b : Bool} (ic : PySem.W.isClsIn K D = true) (ty : PySem.W.typeIn K (.ref D) = some (.type "type")) (h : PySem.W.subIn K (.ref C) (.ref D) = some b) (hb : C = D → b = true) : PySem.W.kitOne K (.ref C) (.ref D) = some b := by
  unfold PySem.W.kitOne
  by_cases q : C = D
  · rw [if_pos (by rw [q]; simp), hb q]
  · rw [if_neg (by simpa using q)]
    unfold PySem.W.kitCls
    have h4 : (PySem.W.clsIn K D).isSome = true := ic
    dsimp only
    rw [h4, ty, if_pos (by simp), h]
def spRoots (K : PySem.W.Frag) (D : Addr) : SpX := fun a cls d vs H Q _ => ∃ (C : Addr) (bs : List Bool), cls = .ref C ∧ vs = [.ref a] ∧ XkC K C ∧ RootsOk K C D bs ∧ DictAt H d ∧ ∀ l H', Ex H H' → H l = none → H' l = some (.lst (bs.map V.bl)) → Q (.ref l) H'
theorem DictAt.mono {H H' : Hp} {d : Option Addr} (e : Ex H H') (h : DictAt H d) : DictAt H' d := by
  cases d with
  | none => trivial
  | some dd => obtain ⟨fs, hd⟩ := h; exact ⟨fs, e _ _ hd⟩
def tIsi (K : PySem.W.Frag) (a C : Addr) (d : Option Addr) (c : V) : TE := tCB (rIsiP K a C d) (tCons (tVar 0) (tCons (tC c) tNil))
def tRoots (K : PySem.W.Frag) (a C D : Addr) (d : Option Addr) : TS :=
  tSeq (tAsg (tLst (tCons (tIsi K a C d (.ty "ValueError")) (tCons (tIsi K a C d (.ty "IndexError")) (tCons (tIsi K a C d (.ty "KeyError")) tNil)))) (gName 1))
    (tSeq (tAsg (tOp rCat (tVar 1) (tLst (tCons (tIsi K a C d (.ty "OverflowError")) (tCons (tIsi K a C d (.ty "ArithmeticError")) tNil)))) (gName 1))
      (tRet (tOp rCat (tVar 1) (tLst (tCons (tIsi K a C d (.ty "LookupError")) (tCons (tIsi K a C d (.ref D)) tNil))))))
theorem isi_run {K : PySem.W.Frag} {a C : Addr} {d : Option Addr} {c : V} {u : Value} {b : Bool} {σ : L2.St} {H : Hp} {Q : VK} (h0 : σ[0]? = some (some (.ref a))) (hc : ClsV c u) (hd : DictAt H d) (e : PySem.W.kitOne K (.ref C) u = some b) (q : Q (.bl b) H) : tIsi K a C d c σ H Q :=
  ⟨.ref a, h0, c, u, b, rfl, hc, hd, e, q⟩
theorem roots_run {K : PySem.W.Frag} {a C D : Addr} {d : Option Addr} {bs : List Bool} {σ : L2.St} {H : Hp} {E : Ends} (h0 : σ[0]? = some (some (.ref a))) (h1 : 1 < σ.length) (hd : DictAt H d) (R : RootsOk K C D bs)
    (q : ∀ l H', Ex H H' → H l = none → H' l = some (.lst (bs.map V.bl)) → E.rt (.ref l) H') : tRoots K a C D d E σ H := by
  obtain ⟨b0, b1, b2, b3, b4, b5, b6, rfl, k0, k1, k2, k3, k4, k5, k6⟩ := R.all
  refine isi_run h0 (.ty _) hd k0 (isi_run h0 (.ty _) hd k1 (isi_run h0 (.ty _) hd k2 ⟨by show 3 ≤ sizeLine; decide, fun p1 n1 => ?_⟩))
  have e1 : Ex H (upd H p1 (.lst [.bl b0, .bl b1, .bl b2])) := Evl.Ex.new n1
  have s0 : (σ.set 1 (some (V.ref p1)))[0]? = some (some (V.ref a)) := by rw [List.getElem?_set_ne (by decide)]; exact h0
  have s1 : (σ.set 1 (some (V.ref p1)))[1]? = some (some (V.ref p1)) := List.getElem?_set_self h1
  refine ⟨.ref p1, s1, isi_run s0 (.ty _) (hd.mono e1) k3 (isi_run s0 (.ty _) (hd.mono e1) k4 ⟨by show 2 ≤ sizeLine; decide, fun p2 n2 => ?_⟩)⟩
  have e2 : Ex _ (upd (upd H p1 (.lst [.bl b0, .bl b1, .bl b2])) p2 (.lst [.bl b3, .bl b4])) := Evl.Ex.new n2
  refine ⟨p1, p2, _, _, rfl, rfl, e2 _ _ upd_same, upd_same, by show 3 + 2 ≤ sizeLine; decide, fun p3 n3 => ?_⟩
  have e3 : Ex _ (upd (upd (upd H p1 (.lst [.bl b0, .bl b1, .bl b2])) p2 (.lst [.bl b3, .bl b4])) p3 (.lst ([.bl b0, .bl b1, .bl b2] ++ [.bl b3, .bl b4]))) := Evl.Ex.new n3
  have t0 : ((σ.set 1 (some (V.ref p1))).set 1 (some (V.ref p3)))[0]? = some (some (V.ref a)) := by rw [List.getElem?_set_ne (by decide)]; exact s0
  have t1 : ((σ.set 1 (some (V.ref p1))).set 1 (some (V.ref p3)))[1]? = some (some (V.ref p3)) := List.getElem?_set_self (by rw [List.length_set]; exact h1)
  have hd3 := ((hd.mono e1).mono e2).mono e3
  refine ⟨.ref p3, t1, isi_run t0 (.ty _) hd3 k5 (isi_run t0 (.own _) hd3 k6 ⟨by show 2 ≤ sizeLine; decide, fun p4 n4 => ?_⟩)⟩
  have e4 : Ex _ (upd _ p4 (.lst [.bl b5, .bl b6])) := Evl.Ex.new n4
  refine ⟨p3, p4, _, _, rfl, rfl, e4 _ _ upd_same, upd_same, by show 5 + 2 ≤ sizeLine; decide, fun p5 n5 => ?_⟩
  have e5 : Ex _ (upd _ p5 (.lst (([.bl b0, .bl b1, .bl b2] ++ [.bl b3, .bl b4]) ++ [.bl b5, .bl b6]))) := Evl.Ex.new n5
  have eA := (((e1.trans e2).trans e3).trans e4)
  exact q p5 _ (eA.trans e5) (by
    cases z : H p5 with
    | none => rfl
    | some u => have := eA _ _ z; rw [n5] at this; cases this) upd_same
/-! repr, of an empty dict too -/
def rReprX (K : PySem.W.Frag) : List V → Hp → VK → Prop := fun xs H Q => rReprD K xs H Q ∨ ∃ a, xs = [.ref a] ∧ H a = some (.dT []) ∧ Q (.str (PyData.dict []).shown) H
theorem call_reprX {X : Cx} (K : PySem.W.Frag) (hc : Calm X.A) (hu : X.A.units + 64 < cLine) (hK : X.K = K := by rfl) : CallR X (.builtin "repr") (rReprX K) := by
  intro pins s σ H xs us Q I r h
  rcases h with h | ⟨a, rfl, ea, q⟩
  · exact call_reprD K hc hu hK pins s σ H xs us Q I r h
  · obtain ⟨u, rfl, ru⟩ := vals1 r
    cases ru
    obtain ⟨_, hsys, ys, rel, o, es, ep, g1, g2, g3, g4, _⟩ := (show ObjOk X.prog X.w H s.heap a (.dT []) from I.hok a _ ea)
    cases rel
    have he : es.toList = [] := g4
    have rd : Reads s.heap (.ref a) (.dict []) (a :: [] ++ []) := .dict g1 g2.1 g3 (by rw [he]; exact .nil) (by rw [he]; exact .nil)
    exact repr_of_reads' rd rfl (fun _ hm => by
      simp only [List.append_nil, List.mem_singleton] at hm
      rw [hm] at hsys
      simp at hsys) hc (by show X.A.units + ((PyData.dict []).depth + 1) < cLine; have : (PyData.dict []).depth = 1 := rfl; omega) (fun _ _ e => e) (fun h' t tk k => ⟨.str _, H, I.kept k, ⟨_, rfl⟩, q⟩) (by decide +kernel)
/-- what can be shown -/
structure ShX (d : Dat) : Prop where
  pl : Pl 2 d ∨ d = .dd
  sh : (py d).showable = true
  len : (reprD d).length ≤ 100
  lay : (PyData.str (reprD d)).canLay0 = true
theorem rx_ok {K : PySem.W.Frag} {B H : Hp} {v : V} {d : Dat} {Q : VK} (c : Ex B H) (h : ShX d) (r : Rep K B v d) (q : Q (.str (reprD d)) H) : rReprX K [v] H Q := by
  rcases h.pl with p | rfl
  · exact .inl ⟨v, py d, rfl, p.dp v (Rep.mono c r), ⟨p.lay.1, h.sh, Nat.le_trans p.lay.2 (by decide), Nat.le_trans h.len (by decide)⟩, q⟩
  · cases r with
    | dd hb => exact .inr ⟨_, rfl, c _ _ hb, q⟩
theorem cd_reprX {K : PySem.W.Frag} {S : List Dat} {d : Dat} (h : ShX d) : CallD K (rReprX K) [.d d] S (.str (reprD d)) S := fun B H as vs c r Q q => by
  cases r with
  | cons r1 rr =>
    cases rr
    exact rx_ok c.ex h r1 (q _ B H c Evo.refl (.str _))
end RW

set_option Elab.async false
set_option linter.all false
set_option maxRecDepth 100000
set_option maxHeartbeats 4000000
/-! ### {'a': e, ..} as a thing that is changed (a cell), d['a'], sorted(d), i in numbers -/
namespace RW
open PySem PySem.Spec PyProof.Rows L2
open Evl (Ex)
theorem merge_nd : ∀ (more kvs : List (L2.Key × V)), ((kvs ++ more).map (·.1)).Nodup → more.foldl (fun acc kv => putK acc kv.1 kv.2) kvs = kvs ++ more
  | [], kvs, _ => by simp
  | (k, v) :: more, kvs, h => by
    have hk : (kvs.any fun kv => decide (kv.1 = k)) = false := by
      rw [List.any_eq_false]
      intro x hx q
      have e : x.1 = k := of_decide_eq_true q
      rw [List.map_append, List.map_cons] at h
      have := (List.nodup_append.mp h).2.2 x.1 (List.mem_map.mpr ⟨x, hx, rfl⟩) k List.mem_cons_self
      exact this e
    have e : putK kvs k v = kvs ++ [(k, v)] := by unfold putK; rw [if_neg (by rw [hk]; decide)]
    rw [List.foldl_cons, e, merge_nd more (kvs ++ [(k, v)]) (by rw [List.append_assoc]; exact h), List.append_assoc]; rfl
section
variable {K : PySem.W.Frag} {n : Nat} {te ta tb tc to ti tv : TE} {tA : TA} {env env' : Env1} {S S1 S2 S3 : List Dat} {x y z : Sl} {d e : Dat} {ds es ds' : List Dat} {P P' : Post} {t u : TS}
  {B B0 B1 B2 B' Bk H H0 H1 H2 H' : Hp} {as as0 as1 : List Addr} {D : Ends} {σ : L2.St} {i j k : Nat} {p : Addr} {E : XK} {ks : List (L2.Key × Dat)}
theorem op_in_seqK {X : Cx} (K : PySem.W.Frag) (hK : X.K = K := by rfl) : OpR X (compareOp .In) (rIn K false) := by
  subst hK
  exact op_in_seq
def EvPs (K : PySem.W.Frag) (trs : List (TE × TE)) (env : Env1) (S : List Dat) (kds : List (Str × Dat)) : Prop :=
  ∀ B H as σ, Ok K B H as S → EnvR K B as σ env → ∀ Q : List (V × V) → Hp → Prop, (∀ ps B' H', Ok K B' H' as S → Evo B H as B' H' → ps.map (·.1) = kds.map (fun k => V.str k.1) → Reps K B' (ps.map (·.2)) (kds.map (·.2)) → Q ps H') → tPairs trs σ H Q
theorem eps_nil : EvPs K [] env S [] := fun B H as σ c g Q q => q [] B H c Evo.refl rfl .nil
theorem eps_cons {s : Str} {trs : List (TE × TE)} {kds : List (Str × Dat)} (h : Ev K tv env S (.d d) S) (r : EvPs K trs env S kds) : EvPs K ((tC (.str s), tv) :: trs) env S ((s, d) :: kds) := fun B H as σ c g Q q =>
  h B H as σ c g _ fun v B1 H1 c1 e1 r1 => r B1 H1 as σ c1 (g.mono e1.ex) _ fun ps B2 H2 c2 e2 k2 r2 => q _ B2 H2 c2 (e1.trans e2) (by rw [List.map_cons, List.map_cons, k2]) (.cons (Rep.mono e2.ex r1) r2)
theorem ps_keys : ∀ {ps : List (V × V)} {kds : List (Str × Dat)}, ps.map (·.1) = kds.map (fun k => V.str k.1) → ∃ kvs : List (L2.Key × V), ps = kvs.map (fun kv => (kV kv.1, kv.2)) ∧ kvs.map (·.1) = kds.map (fun k => Sum.inr k.1) ∧ kvs.map (·.2) = ps.map (·.2)
  | [], [], _ => ⟨[], rfl, rfl, rfl⟩
  | (a, b) :: ps, (s, d) :: kds, h => by
    simp only [List.map_cons, List.cons.injEq] at h
    obtain ⟨rfl, h⟩ := h
    obtain ⟨kvs, h1, h2, h3⟩ := ps_keys h
    exact ⟨(.inr s, b) :: kvs, by rw [List.map_cons, ← h1]; rfl, by rw [List.map_cons, List.map_cons, h2], by rw [List.map_cons, List.map_cons, h3]⟩
  | [], _ :: _, h => by simp at h
  | _ :: _, [], h => by simp at h
abbrev dspD (kds : List (Str × Dat)) : Dat := .dkd (kds.map fun k => (Sum.inr k.1, k.2))
/-- x = {'a': e, ..} -/
theorem sp_setDsp {trs : List (TE × TE)} {kds : List (Str × Dat)} (h : EvPs K trs env S kds) (hn : (kds.map (·.1)).Nodup) (hl : kds.length ≤ 15) (q : SP K n u (env.set i (some (.c S.length))) (S ++ [dspD kds]) P) :
    SP K n (tSeq (tAsg (tDisp trs) (gName i)) u) env S P := fun B0 H0 as0 Bk B H as σ hl0 f c g D m => fun p hp => by
  have hB := c.Bnone hp
  have hpa := c.fresh hp
  have c2 : Ok K B (upd H p (.dK [])) as S := c.other hB hpa
  have e2 : Evo B H as B (upd H p (.dK [])) := Evo.refl.other (.of hp)
  refine h B _ as σ c2 (g.mono e2.ex) _ fun ps B2 H2 c3 e3 k3 r3 => ?_
  obtain ⟨k1, k2⟩ := e3.kept hpa upd_same hB
  have e03 := e2.trans e3
  obtain ⟨kvs, rfl, h2, h3⟩ := ps_keys k3
  have hnd : (kvs.map (·.1)).Nodup := by
    rw [h2, show kds.map (fun k => (Sum.inr k.1 : L2.Key)) = (kds.map (·.1)).map Sum.inr by rw [List.map_map]; rfl]
    exact (List.Pairwise.map _ (fun a b hab z => hab (Sum.inr.inj z)) hn)
  have hlen : kvs.length = kds.length := by
    have := congrArg List.length h2
    rwa [List.length_map, List.length_map] at this
  have em : mergeK [] kvs = kvs := merge_nd kvs [] (by simpa using hnd)
  refine ⟨k1, kvs, rfl, by omega, ?_⟩
  rw [em]
  have hset : Ok K B2 (upd H2 p (.dK kvs)) as S := c3.other k2 hpa
  have eset : Evo B H as B2 (upd H2 p (.dK kvs)) := e03.other (.of hp)
  refine q B0 H0 as0 Bk B2 _ (as ++ [p]) _ hl0 ((f.step eset).push (f.evo.old hp)) (hset.push k2 hpa ⟨_, upd_same, ?_, ?_⟩) ((g.mono eset.ex).grow.set i ⟨p, by rw [← c.len]; simp, rfl⟩) D m
  · rw [h2, List.map_map]; rfl
  · rw [List.map_map]
    rw [← h3] at r3
    exact r3
theorem rep_keyS {v : V} {s : Str} (h : Rep K B v (.str s)) : v = kV (.inr s) := by cases h; rfl
/-- d[s], s a text -/
theorem ev_dgetS {s : Str} (h : Ev K ta env S (.c k) S1) (hi : Ev K ti env S1 (.d (.str s)) S2) (hs : S2[k]? = some (.dkd ks)) (hv : valD ks (.inr s) = some d) : Ev K (tDGet ta ti) env S (.d d) S2 := fun B H as σ c g Q q =>
  h B H as σ c g _ fun v B1 H1 c1 e1 r1 => hi B1 H1 as σ c1 (g.mono e1.ex) _ fun w B2 H2 c2 e2 r2 => by
    obtain ⟨p, hp, rfl⟩ := r1
    obtain ⟨kvs, hk, h1, h2⟩ := (c2.cells k p _ hp hs).2.dkd
    obtain ⟨v, hv1, hv2⟩ := val_reps (f := id) key_inj (by simpa using h1) h2 hv
    have hw := rep_keyS r2
    subst hw
    exact ⟨p, v, rfl, by have := DGet.k (k := .inr s) hk; rw [show valV kvs (Sum.inr s) = some v from hv1] at this; exact this, q v B2 H2 c2 (e1.trans e2) hv2⟩
theorem reps_bls : ∀ (bs : List Bool), Reps K B (bs.map V.bl) (bs.map Dat.bl)
  | [] => .nil
  | _ :: bs => .cons (.bl _) (reps_bls bs)
/-- what sorted gives of such a dict -/
def rSrtK : List V → Hp → VK → Prop := fun xs H Q => ∃ (a : Addr) (kvs : List (L2.Key × V)) (ks : List Str), xs = [.ref a] ∧ Rd H a (.dK kvs) ∧ kvs.map (·.1) = ks.map Sum.inr ∧ ks.length < 64 ∧
    ∀ ys p, ys.Perm ks → sortedS ys = true → H p = none → Q (.ref p) (upd H p (.lst (ys.map V.str)))
theorem call_srtK {X : Cx} (hcalm : X.calm = true) : CallR X (.builtin "sorted") rSrtK := call_sortedD hcalm
theorem ene_srtK {kds : List (Str × Dat)} (h : Ev K ta env S (.c k) S1) (hs : S1[k]? = some (dspD kds)) (hl : kds.length < 64) : EvNE K (tCB rSrtK (tCons ta tNil)) env S (fun ds T => ∃ ys : List Str, ys.Perm (kds.map (·.1)) ∧ ds = ys.map Dat.str ∧ T = S1) := fun B H as σ c g Q q =>
  h B H as σ c g _ fun v B1 H1 c1 e1 r1 => by
    obtain ⟨p, hp, rfl⟩ := r1
    obtain ⟨kvs, hk, h1, _⟩ := (c1.cells k p _ hp hs).2.dkd
    refine ⟨p, kvs, kds.map (·.1), rfl, .inl hk, by rw [h1, List.map_map, List.map_map]; rfl, by rw [List.length_map]; exact hl, fun ys a hys _ ha => ?_⟩
    have hB := c1.Bnone ha
    exact q a B1 _ (ys.map V.str) (ys.map Dat.str) S1 (c1.other hB (c1.fresh ha)) (e1.trans (Evo.refl.other (.of ha))) ⟨c1.fresh ha, e1.oldN (.of ha)⟩ hB upd_same (reps_strs ys) ⟨ys, hys, rfl, rfl⟩
theorem o_inI {ns : List Int} {m : Int} (h : Seq S x (ns.map Dat.int)) : Op2 K (rIn K false) (.d (.int m)) x S (.bl (decide (m ∈ ns))) := fun B H as v w c r1 r2 Q k => by
  cases r1
  obtain ⟨a, kk, vs, rfl, hq, hr⟩ := h.read c r2
  have e := hr.ints
  subst e
  refine ⟨a, _, rfl, sq_or hq, rfl, ?_, ?_⟩
  · rw [List.all_eq_true]
    intro v hv
    obtain ⟨j, _, rfl⟩ := List.mem_map.mp hv
    rfl
  · have : inV (V.int m) (ns.map V.int) = decide (m ∈ ns) := by
      unfold inV
      rw [Bool.eq_iff_iff, List.any_eq_true, decide_eq_true_eq]
      constructor
      · rintro ⟨v, hv, e⟩
        obtain ⟨j, hj, rfl⟩ := List.mem_map.mp hv
        have : j = m := by
          have e2 : (j == m) = true := e
          exact beq_iff_eq.mp e2
        rw [← this]; exact hj
      · intro hm
        exact ⟨V.int m, List.mem_map.mpr ⟨m, hm, rfl⟩, by show (m == m) = true; simp⟩
    rw [this]
    exact k _ B H c Evo.refl (.bl _)
end
end RW

set_option Elab.async false
set_option linter.all false
set_option maxRecDepth 100000
set_option maxHeartbeats 4000000
namespace N00
open PySem PySem.Spec PyProof.Rows L2 RW

/-! the text by places -/
def top (i : Nat) : Stmt := PySem.Challenge.pw_rampworks_k00_errors_and_what_they_keep.main.body.getD i (.Pass ⟨0, 0, 0, 0⟩)
abbrev s_ParseErroru_initu : Stmt := inClass (top 10) 0
theorem sc_ParseErroru_initu : FnScope ["self", "spot"] ["self", "spot"] (defScope s_ParseErroru_initu) := ⟨rfl, rfl, rfl, by decide +kernel, rfl, by decide +kernel, by decide +kernel⟩
abbrev s_InvalidNumberu_initu : Stmt := inClass (top 11) 0
theorem sc_InvalidNumberu_initu : FnScope ["self", "given"] ["self", "given"] (defScope s_InvalidNumberu_initu) := ⟨rfl, rfl, rfl, by decide +kernel, rfl, by decide +kernel, by decide +kernel⟩
abbrev s_UnknownNameu_initu : Stmt := inClass (top 12) 0
theorem sc_UnknownNameu_initu : FnScope ["self", "wanted"] ["self", "wanted"] (defScope s_UnknownNameu_initu) := ⟨rfl, rfl, rfl, by decide +kernel, rfl, by decide +kernel, by decide +kernel⟩
abbrev s_TooManyu_initu : Stmt := inClass (top 13) 0
theorem sc_TooManyu_initu : FnScope ["self", "limit"] ["self", "limit"] (defScope s_TooManyu_initu) := ⟨rfl, rfl, rfl, by decide +kernel, rfl, by decide +kernel, by decide +kernel⟩
abbrev s_NothingToUndou_initu : Stmt := inClass (top 14) 0
theorem sc_NothingToUndou_initu : FnScope ["self", "done"] ["self", "done"] (defScope s_NothingToUndou_initu) := ⟨rfl, rfl, rfl, by decide +kernel, rfl, by decide +kernel, by decide +kernel⟩
abbrev s_Refusedu_initu : Stmt := inClass (top 15) 0
theorem sc_Refusedu_initu : FnScope ["self", "reason"] ["self", "reason"] (defScope s_Refusedu_initu) := ⟨rfl, rfl, rfl, by decide +kernel, rfl, by decide +kernel, by decide +kernel⟩
abbrev s__law_pail : Stmt := top 17
theorem sc__law_pail : FnScope ["script", "spot", "cell", "great", "seed"] ["script", "spot"] (defScope s__law_pail) := ⟨rfl, rfl, rfl, by decide +kernel, rfl, by decide +kernel, by decide +kernel⟩
abbrev s__law_scooped : Stmt := top 18
theorem sc__law_scooped : FnScope ["pail", "total", "found", "one", "two"] ["pail", "total"] (defScope s__law_scooped) := ⟨rfl, rfl, rfl, by decide +kernel, rfl, by decide +kernel, by decide +kernel⟩
abbrev s__law_any_of : Stmt := top 19
theorem sc__law_any_of : FnScope ["pail", "items"] ["pail", "items"] (defScope s__law_any_of) := ⟨rfl, rfl, rfl, by decide +kernel, rfl, by decide +kernel, by decide +kernel⟩
abbrev s__law_raise : Stmt := top 20
theorem sc__law_raise : FnScope ["word", "value"] ["word", "value"] (defScope s__law_raise) := ⟨rfl, rfl, rfl, by decide +kernel, rfl, by decide +kernel, by decide +kernel⟩
abbrev s__law_raise_kept : Stmt := top 21
theorem sc__law_raise_kept : FnScope ["word", "value"] ["word", "value"] (defScope s__law_raise_kept) := ⟨rfl, rfl, rfl, by decide +kernel, rfl, by decide +kernel, by decide +kernel⟩
abbrev s__law_roots : Stmt := top 22
theorem sc__law_roots : FnScope ["error", "found"] ["error"] (defScope s__law_roots) := ⟨rfl, rfl, rfl, by decide +kernel, rfl, by decide +kernel, by decide +kernel⟩
abbrev s__law_caught : Stmt := top 23
theorem sc__law_caught : FnScope ["word", "value", "error"] ["word", "value"] (defScope s__law_caught) := ⟨rfl, rfl, rfl, by decide +kernel, rfl, by decide +kernel, by decide +kernel⟩
abbrev s__law_right : Stmt := top 24
theorem sc__law_right : FnScope ["pail", "word", "due", "place", "value", "roots"] ["pail"] (defScope s__law_right) := ⟨rfl, rfl, rfl, by decide +kernel, rfl, by decide +kernel, by decide +kernel⟩
abbrev s_law : Stmt := top 25
theorem sc_law : FnScope ["script", "spot", "pail"] ["script"] (defScope s_law) := ⟨rfl, rfl, rfl, by decide +kernel, rfl, by decide +kernel, by decide +kernel⟩
structure Txt (K : PySem.W.Frag) (mg : Str → Option Value) where
  a_ParseErroru_initu : Addr
  d_ParseErroru_initu : FuncData
  F_ParseErroru_initu : Fun K "__init__" "ParseError.__init__" s_ParseErroru_initu a_ParseErroru_initu d_ParseErroru_initu
  b_ParseErroru_initu : Binds K d_ParseErroru_initu ["self", "spot"] []
  a_InvalidNumberu_initu : Addr
  d_InvalidNumberu_initu : FuncData
  F_InvalidNumberu_initu : Fun K "__init__" "InvalidNumber.__init__" s_InvalidNumberu_initu a_InvalidNumberu_initu d_InvalidNumberu_initu
  b_InvalidNumberu_initu : Binds K d_InvalidNumberu_initu ["self", "given"] []
  a_UnknownNameu_initu : Addr
  d_UnknownNameu_initu : FuncData
  F_UnknownNameu_initu : Fun K "__init__" "UnknownName.__init__" s_UnknownNameu_initu a_UnknownNameu_initu d_UnknownNameu_initu
  b_UnknownNameu_initu : Binds K d_UnknownNameu_initu ["self", "wanted"] []
  a_TooManyu_initu : Addr
  d_TooManyu_initu : FuncData
  F_TooManyu_initu : Fun K "__init__" "TooMany.__init__" s_TooManyu_initu a_TooManyu_initu d_TooManyu_initu
  b_TooManyu_initu : Binds K d_TooManyu_initu ["self", "limit"] []
  a_NothingToUndou_initu : Addr
  d_NothingToUndou_initu : FuncData
  F_NothingToUndou_initu : Fun K "__init__" "NothingToUndo.__init__" s_NothingToUndou_initu a_NothingToUndou_initu d_NothingToUndou_initu
  b_NothingToUndou_initu : Binds K d_NothingToUndou_initu ["self", "done"] []
  a_Refusedu_initu : Addr
  d_Refusedu_initu : FuncData
  F_Refusedu_initu : Fun K "__init__" "Refused.__init__" s_Refusedu_initu a_Refusedu_initu d_Refusedu_initu
  b_Refusedu_initu : Binds K d_Refusedu_initu ["self", "reason"] []
  a__law_pail : Addr
  d__law_pail : FuncData
  F__law_pail : Fun K "_law_pail" "_law_pail" s__law_pail a__law_pail d__law_pail
  b__law_pail : Binds K d__law_pail ["script", "spot"] []
  m__law_pail : mg "_law_pail" = some (.ref a__law_pail)
  k__law_pail : PySem.W.keepIn K (.ref a__law_pail) = true
  a__law_scooped : Addr
  d__law_scooped : FuncData
  F__law_scooped : Fun K "_law_scooped" "_law_scooped" s__law_scooped a__law_scooped d__law_scooped
  b__law_scooped : Binds K d__law_scooped ["pail", "total"] []
  m__law_scooped : mg "_law_scooped" = some (.ref a__law_scooped)
  k__law_scooped : PySem.W.keepIn K (.ref a__law_scooped) = true
  a__law_any_of : Addr
  d__law_any_of : FuncData
  F__law_any_of : Fun K "_law_any_of" "_law_any_of" s__law_any_of a__law_any_of d__law_any_of
  b__law_any_of : Binds K d__law_any_of ["pail", "items"] []
  m__law_any_of : mg "_law_any_of" = some (.ref a__law_any_of)
  k__law_any_of : PySem.W.keepIn K (.ref a__law_any_of) = true
  a__law_raise : Addr
  d__law_raise : FuncData
  F__law_raise : Fun K "_law_raise" "_law_raise" s__law_raise a__law_raise d__law_raise
  b__law_raise : Binds K d__law_raise ["word", "value"] []
  m__law_raise : mg "_law_raise" = some (.ref a__law_raise)
  k__law_raise : PySem.W.keepIn K (.ref a__law_raise) = true
  a__law_raise_kept : Addr
  d__law_raise_kept : FuncData
  F__law_raise_kept : Fun K "_law_raise_kept" "_law_raise_kept" s__law_raise_kept a__law_raise_kept d__law_raise_kept
  b__law_raise_kept : Binds K d__law_raise_kept ["word", "value"] []
  m__law_raise_kept : mg "_law_raise_kept" = some (.ref a__law_raise_kept)
  k__law_raise_kept : PySem.W.keepIn K (.ref a__law_raise_kept) = true
  a__law_roots : Addr
  d__law_roots : FuncData
  F__law_roots : Fun K "_law_roots" "_law_roots" s__law_roots a__law_roots d__law_roots
  b__law_roots : Binds K d__law_roots ["error"] []
  m__law_roots : mg "_law_roots" = some (.ref a__law_roots)
  k__law_roots : PySem.W.keepIn K (.ref a__law_roots) = true
  a__law_caught : Addr
  d__law_caught : FuncData
  F__law_caught : Fun K "_law_caught" "_law_caught" s__law_caught a__law_caught d__law_caught
  b__law_caught : Binds K d__law_caught ["word", "value"] []
  m__law_caught : mg "_law_caught" = some (.ref a__law_caught)
  k__law_caught : PySem.W.keepIn K (.ref a__law_caught) = true
  a__law_right : Addr
  d__law_right : FuncData
  F__law_right : Fun K "_law_right" "_law_right" s__law_right a__law_right d__law_right
  b__law_right : Binds K d__law_right ["pail"] []
  m__law_right : mg "_law_right" = some (.ref a__law_right)
  k__law_right : PySem.W.keepIn K (.ref a__law_right) = true
  a_law : Addr
  d_law : FuncData
  F_law : Fun K "law" "law" s_law a_law d_law
  b_law : Binds K d_law ["script"] []
  n_isinstance : mg "isinstance" = none
  n_len : mg "len" = none
  n_max : mg "max" = none
  n_min : mg "min" = none
  n_abs : mg "abs" = none
  n_range : mg "range" = none
  n_sorted : mg "sorted" = none
  n_repr : mg "repr" = none
  n_int : mg "int" = none
  n_ValueError : mg "ValueError" = none
  n_IndexError : mg "IndexError" = none
  n_KeyError : mg "KeyError" = none
  n_OverflowError : mg "OverflowError" = none
  n_ArithmeticError : mg "ArithmeticError" = none
  n_LookupError : mg "LookupError" = none
  a_InvalidRow : Addr
  m_InvalidRow : mg "InvalidRow" = some (.ref a_InvalidRow)
  a_InvalidLot : Addr
  m_InvalidLot : mg "InvalidLot" = some (.ref a_InvalidLot)
  a_InvalidReading : Addr
  m_InvalidReading : mg "InvalidReading" = some (.ref a_InvalidReading)
  a_InvalidNetwork : Addr
  m_InvalidNetwork : mg "InvalidNetwork" = some (.ref a_InvalidNetwork)
  a_InvalidGrowth : Addr
  m_InvalidGrowth : mg "InvalidGrowth" = some (.ref a_InvalidGrowth)
  a_InvalidOperation : Addr
  m_InvalidOperation : mg "InvalidOperation" = some (.ref a_InvalidOperation)
  a_InvalidText : Addr
  m_InvalidText : mg "InvalidText" = some (.ref a_InvalidText)
  a_InvalidClaim : Addr
  m_InvalidClaim : mg "InvalidClaim" = some (.ref a_InvalidClaim)
  a_ParseError : Addr
  m_ParseError : mg "ParseError" = some (.ref a_ParseError)
  a_RampError : Addr
  m_RampError : mg "RampError" = some (.ref a_RampError)
  a_InvalidNumber : Addr
  m_InvalidNumber : mg "InvalidNumber" = some (.ref a_InvalidNumber)
  a_UnknownName : Addr
  m_UnknownName : mg "UnknownName" = some (.ref a_UnknownName)
  a_NothingToUndo : Addr
  m_NothingToUndo : mg "NothingToUndo" = some (.ref a_NothingToUndo)
  a_TooMany : Addr
  m_TooMany : mg "TooMany" = some (.ref a_TooMany)
  a_Refused : Addr
  m_Refused : mg "Refused" = some (.ref a_Refused)
  k_InvalidRow : PySem.W.keepIn K (.ref a_InvalidRow) = true
  be_InvalidRow : PySem.W.subIn K (.ref a_InvalidRow) (.type "BaseException") = some true
  ty_InvalidRow : PySem.W.typeIn K (.ref a_InvalidRow) = some (.type "type")
  xk_InvalidRow : XkC K a_InvalidRow
  rt_InvalidRow : RootsOk K a_InvalidRow a_RampError [true, false, false, false, false, false, true]
  em_InvalidRow : Ems K (.ref a_InvalidRow) []
  es_InvalidRow : PySem.W.exmOne K (.ref a_InvalidRow) (.ref a_InvalidRow) = some true
  x_InvalidRow : PySem.W.excIn K a_InvalidRow [.type "ValueError", .type "Exception", .type "BaseException", .type "object"] "ValueError.__new__" = true
  k_InvalidLot : PySem.W.keepIn K (.ref a_InvalidLot) = true
  be_InvalidLot : PySem.W.subIn K (.ref a_InvalidLot) (.type "BaseException") = some true
  ty_InvalidLot : PySem.W.typeIn K (.ref a_InvalidLot) = some (.type "type")
  xk_InvalidLot : XkC K a_InvalidLot
  rt_InvalidLot : RootsOk K a_InvalidLot a_RampError [true, false, false, false, false, false, true]
  em_InvalidLot : Ems K (.ref a_InvalidLot) [a_InvalidRow]
  es_InvalidLot : PySem.W.exmOne K (.ref a_InvalidLot) (.ref a_InvalidLot) = some true
  x_InvalidLot : PySem.W.excIn K a_InvalidLot [.type "ValueError", .type "Exception", .type "BaseException", .type "object"] "ValueError.__new__" = true
  k_InvalidReading : PySem.W.keepIn K (.ref a_InvalidReading) = true
  be_InvalidReading : PySem.W.subIn K (.ref a_InvalidReading) (.type "BaseException") = some true
  ty_InvalidReading : PySem.W.typeIn K (.ref a_InvalidReading) = some (.type "type")
  xk_InvalidReading : XkC K a_InvalidReading
  rt_InvalidReading : RootsOk K a_InvalidReading a_RampError [true, false, false, false, false, false, true]
  em_InvalidReading : Ems K (.ref a_InvalidReading) [a_InvalidRow, a_InvalidLot]
  es_InvalidReading : PySem.W.exmOne K (.ref a_InvalidReading) (.ref a_InvalidReading) = some true
  x_InvalidReading : PySem.W.excIn K a_InvalidReading [.type "ValueError", .type "Exception", .type "BaseException", .type "object"] "ValueError.__new__" = true
  k_InvalidNetwork : PySem.W.keepIn K (.ref a_InvalidNetwork) = true
  be_InvalidNetwork : PySem.W.subIn K (.ref a_InvalidNetwork) (.type "BaseException") = some true
  ty_InvalidNetwork : PySem.W.typeIn K (.ref a_InvalidNetwork) = some (.type "type")
  xk_InvalidNetwork : XkC K a_InvalidNetwork
  rt_InvalidNetwork : RootsOk K a_InvalidNetwork a_RampError [true, false, false, false, false, false, true]
  em_InvalidNetwork : Ems K (.ref a_InvalidNetwork) [a_InvalidRow, a_InvalidLot, a_InvalidReading]
  es_InvalidNetwork : PySem.W.exmOne K (.ref a_InvalidNetwork) (.ref a_InvalidNetwork) = some true
  x_InvalidNetwork : PySem.W.excIn K a_InvalidNetwork [.type "ValueError", .type "Exception", .type "BaseException", .type "object"] "ValueError.__new__" = true
  k_InvalidGrowth : PySem.W.keepIn K (.ref a_InvalidGrowth) = true
  be_InvalidGrowth : PySem.W.subIn K (.ref a_InvalidGrowth) (.type "BaseException") = some true
  ty_InvalidGrowth : PySem.W.typeIn K (.ref a_InvalidGrowth) = some (.type "type")
  xk_InvalidGrowth : XkC K a_InvalidGrowth
  rt_InvalidGrowth : RootsOk K a_InvalidGrowth a_RampError [true, false, false, false, false, false, true]
  em_InvalidGrowth : Ems K (.ref a_InvalidGrowth) [a_InvalidRow, a_InvalidLot, a_InvalidReading, a_InvalidNetwork]
  es_InvalidGrowth : PySem.W.exmOne K (.ref a_InvalidGrowth) (.ref a_InvalidGrowth) = some true
  x_InvalidGrowth : PySem.W.excIn K a_InvalidGrowth [.type "ValueError", .type "Exception", .type "BaseException", .type "object"] "ValueError.__new__" = true
  k_InvalidOperation : PySem.W.keepIn K (.ref a_InvalidOperation) = true
  be_InvalidOperation : PySem.W.subIn K (.ref a_InvalidOperation) (.type "BaseException") = some true
  ty_InvalidOperation : PySem.W.typeIn K (.ref a_InvalidOperation) = some (.type "type")
  xk_InvalidOperation : XkC K a_InvalidOperation
  rt_InvalidOperation : RootsOk K a_InvalidOperation a_RampError [true, false, false, false, false, false, true]
  em_InvalidOperation : Ems K (.ref a_InvalidOperation) [a_InvalidRow, a_InvalidLot, a_InvalidReading, a_InvalidNetwork, a_InvalidGrowth]
  es_InvalidOperation : PySem.W.exmOne K (.ref a_InvalidOperation) (.ref a_InvalidOperation) = some true
  x_InvalidOperation : PySem.W.excIn K a_InvalidOperation [.type "ValueError", .type "Exception", .type "BaseException", .type "object"] "ValueError.__new__" = true
  k_InvalidText : PySem.W.keepIn K (.ref a_InvalidText) = true
  be_InvalidText : PySem.W.subIn K (.ref a_InvalidText) (.type "BaseException") = some true
  ty_InvalidText : PySem.W.typeIn K (.ref a_InvalidText) = some (.type "type")
  xk_InvalidText : XkC K a_InvalidText
  rt_InvalidText : RootsOk K a_InvalidText a_RampError [true, false, false, false, false, false, true]
  em_InvalidText : Ems K (.ref a_InvalidText) [a_InvalidRow, a_InvalidLot, a_InvalidReading, a_InvalidNetwork, a_InvalidGrowth, a_InvalidOperation]
  es_InvalidText : PySem.W.exmOne K (.ref a_InvalidText) (.ref a_InvalidText) = some true
  x_InvalidText : PySem.W.excIn K a_InvalidText [.type "ValueError", .type "Exception", .type "BaseException", .type "object"] "ValueError.__new__" = true
  k_InvalidClaim : PySem.W.keepIn K (.ref a_InvalidClaim) = true
  be_InvalidClaim : PySem.W.subIn K (.ref a_InvalidClaim) (.type "BaseException") = some true
  ty_InvalidClaim : PySem.W.typeIn K (.ref a_InvalidClaim) = some (.type "type")
  xk_InvalidClaim : XkC K a_InvalidClaim
  rt_InvalidClaim : RootsOk K a_InvalidClaim a_RampError [true, false, false, false, false, false, true]
  em_InvalidClaim : Ems K (.ref a_InvalidClaim) [a_InvalidRow, a_InvalidLot, a_InvalidReading, a_InvalidNetwork, a_InvalidGrowth, a_InvalidOperation, a_InvalidText]
  es_InvalidClaim : PySem.W.exmOne K (.ref a_InvalidClaim) (.ref a_InvalidClaim) = some true
  x_InvalidClaim : PySem.W.excIn K a_InvalidClaim [.type "ValueError", .type "Exception", .type "BaseException", .type "object"] "ValueError.__new__" = true
  k_ParseError : PySem.W.keepIn K (.ref a_ParseError) = true
  be_ParseError : PySem.W.subIn K (.ref a_ParseError) (.type "BaseException") = some true
  ty_ParseError : PySem.W.typeIn K (.ref a_ParseError) = some (.type "type")
  ox_ParseError : OexC K a_ParseError
  oi_ParseError : PySem.W.findIn K (.ref a_ParseError) "__init__" = some (some (.ref a_ParseErroru_initu))
  ot_ParseError : PySem.W.typeIn K (.ref a_ParseErroru_initu) = some (.type "function")
  nf_ParseError : PySem.W.findIn K (.ref a_ParseError) "spot" = some none
  xf_ParseError : XfC K a_ParseError
  xk_ParseError : XkC K a_ParseError
  rt_ParseError : RootsOk K a_ParseError a_RampError [true, false, false, false, false, false, true]
  em_ParseError : Ems K (.ref a_ParseError) [a_InvalidRow, a_InvalidLot, a_InvalidReading, a_InvalidNetwork, a_InvalidGrowth, a_InvalidOperation, a_InvalidText, a_InvalidClaim]
  es_ParseError : PySem.W.exmOne K (.ref a_ParseError) (.ref a_ParseError) = some true
  k_RampError : PySem.W.keepIn K (.ref a_RampError) = true
  be_RampError : PySem.W.subIn K (.ref a_RampError) (.type "BaseException") = some true
  ty_RampError : PySem.W.typeIn K (.ref a_RampError) = some (.type "type")
  xk_RampError : XkC K a_RampError
  rt_RampError : RootsOk K a_RampError a_RampError [true, false, false, false, false, false, true]
  em_RampError : Ems K (.ref a_RampError) [a_InvalidRow, a_InvalidLot, a_InvalidReading, a_InvalidNetwork, a_InvalidGrowth, a_InvalidOperation, a_InvalidText, a_InvalidClaim, a_ParseError]
  es_RampError : PySem.W.exmOne K (.ref a_RampError) (.ref a_RampError) = some true
  x_RampError : PySem.W.excIn K a_RampError [.type "ValueError", .type "Exception", .type "BaseException", .type "object"] "ValueError.__new__" = true
  k_InvalidNumber : PySem.W.keepIn K (.ref a_InvalidNumber) = true
  be_InvalidNumber : PySem.W.subIn K (.ref a_InvalidNumber) (.type "BaseException") = some true
  ty_InvalidNumber : PySem.W.typeIn K (.ref a_InvalidNumber) = some (.type "type")
  ox_InvalidNumber : OexG K a_InvalidNumber
  oi_InvalidNumber : PySem.W.findIn K (.ref a_InvalidNumber) "__init__" = some (some (.ref a_InvalidNumberu_initu))
  ot_InvalidNumber : PySem.W.typeIn K (.ref a_InvalidNumberu_initu) = some (.type "function")
  nf_InvalidNumber : PySem.W.findIn K (.ref a_InvalidNumber) "given" = some none
  xf_InvalidNumber : XfC K a_InvalidNumber
  xk_InvalidNumber : XkC K a_InvalidNumber
  rt_InvalidNumber : RootsOk K a_InvalidNumber a_RampError [false, true, false, false, false, true, false]
  em_InvalidNumber : Ems K (.ref a_InvalidNumber) [a_InvalidRow, a_InvalidLot, a_InvalidReading, a_InvalidNetwork, a_InvalidGrowth, a_InvalidOperation, a_InvalidText, a_InvalidClaim, a_ParseError, a_RampError]
  es_InvalidNumber : PySem.W.exmOne K (.ref a_InvalidNumber) (.ref a_InvalidNumber) = some true
  k_UnknownName : PySem.W.keepIn K (.ref a_UnknownName) = true
  be_UnknownName : PySem.W.subIn K (.ref a_UnknownName) (.type "BaseException") = some true
  ty_UnknownName : PySem.W.typeIn K (.ref a_UnknownName) = some (.type "type")
  ox_UnknownName : OexG K a_UnknownName
  oi_UnknownName : PySem.W.findIn K (.ref a_UnknownName) "__init__" = some (some (.ref a_UnknownNameu_initu))
  ot_UnknownName : PySem.W.typeIn K (.ref a_UnknownNameu_initu) = some (.type "function")
  nf_UnknownName : PySem.W.findIn K (.ref a_UnknownName) "wanted" = some none
  xf_UnknownName : XfC K a_UnknownName
  xk_UnknownName : XkC K a_UnknownName
  rt_UnknownName : RootsOk K a_UnknownName a_RampError [false, false, true, false, false, true, false]
  em_UnknownName : Ems K (.ref a_UnknownName) [a_InvalidRow, a_InvalidLot, a_InvalidReading, a_InvalidNetwork, a_InvalidGrowth, a_InvalidOperation, a_InvalidText, a_InvalidClaim, a_ParseError, a_RampError, a_InvalidNumber]
  es_UnknownName : PySem.W.exmOne K (.ref a_UnknownName) (.ref a_UnknownName) = some true
  k_NothingToUndo : PySem.W.keepIn K (.ref a_NothingToUndo) = true
  be_NothingToUndo : PySem.W.subIn K (.ref a_NothingToUndo) (.type "BaseException") = some true
  ty_NothingToUndo : PySem.W.typeIn K (.ref a_NothingToUndo) = some (.type "type")
  ox_NothingToUndo : OexG K a_NothingToUndo
  oi_NothingToUndo : PySem.W.findIn K (.ref a_NothingToUndo) "__init__" = some (some (.ref a_NothingToUndou_initu))
  ot_NothingToUndo : PySem.W.typeIn K (.ref a_NothingToUndou_initu) = some (.type "function")
  nf_NothingToUndo : PySem.W.findIn K (.ref a_NothingToUndo) "done" = some none
  xf_NothingToUndo : XfC K a_NothingToUndo
  xk_NothingToUndo : XkC K a_NothingToUndo
  rt_NothingToUndo : RootsOk K a_NothingToUndo a_RampError [false, false, false, false, false, true, false]
  em_NothingToUndo : Ems K (.ref a_NothingToUndo) [a_InvalidRow, a_InvalidLot, a_InvalidReading, a_InvalidNetwork, a_InvalidGrowth, a_InvalidOperation, a_InvalidText, a_InvalidClaim, a_ParseError, a_RampError, a_InvalidNumber, a_UnknownName]
  es_NothingToUndo : PySem.W.exmOne K (.ref a_NothingToUndo) (.ref a_NothingToUndo) = some true
  k_TooMany : PySem.W.keepIn K (.ref a_TooMany) = true
  be_TooMany : PySem.W.subIn K (.ref a_TooMany) (.type "BaseException") = some true
  ty_TooMany : PySem.W.typeIn K (.ref a_TooMany) = some (.type "type")
  ox_TooMany : OexG K a_TooMany
  oi_TooMany : PySem.W.findIn K (.ref a_TooMany) "__init__" = some (some (.ref a_TooManyu_initu))
  ot_TooMany : PySem.W.typeIn K (.ref a_TooManyu_initu) = some (.type "function")
  nf_TooMany : PySem.W.findIn K (.ref a_TooMany) "limit" = some none
  xf_TooMany : XfC K a_TooMany
  xk_TooMany : XkC K a_TooMany
  rt_TooMany : RootsOk K a_TooMany a_RampError [false, false, false, true, true, false, false]
  em_TooMany : Ems K (.ref a_TooMany) [a_InvalidRow, a_InvalidLot, a_InvalidReading, a_InvalidNetwork, a_InvalidGrowth, a_InvalidOperation, a_InvalidText, a_InvalidClaim, a_ParseError, a_RampError, a_InvalidNumber, a_UnknownName, a_NothingToUndo]
  es_TooMany : PySem.W.exmOne K (.ref a_TooMany) (.ref a_TooMany) = some true
  k_Refused : PySem.W.keepIn K (.ref a_Refused) = true
  be_Refused : PySem.W.subIn K (.ref a_Refused) (.type "BaseException") = some true
  ty_Refused : PySem.W.typeIn K (.ref a_Refused) = some (.type "type")
  ox_Refused : OexG K a_Refused
  oi_Refused : PySem.W.findIn K (.ref a_Refused) "__init__" = some (some (.ref a_Refusedu_initu))
  ot_Refused : PySem.W.typeIn K (.ref a_Refusedu_initu) = some (.type "function")
  nf_Refused : PySem.W.findIn K (.ref a_Refused) "reason" = some none
  xf_Refused : XfC K a_Refused
  xk_Refused : XkC K a_Refused
  rt_Refused : RootsOk K a_Refused a_RampError [false, false, false, false, true, false, false]
  em_Refused : Ems K (.ref a_Refused) [a_InvalidRow, a_InvalidLot, a_InvalidReading, a_InvalidNetwork, a_InvalidGrowth, a_InvalidOperation, a_InvalidText, a_InvalidClaim, a_ParseError, a_RampError, a_InvalidNumber, a_UnknownName, a_NothingToUndo, a_TooMany]
  es_Refused : PySem.W.exmOne K (.ref a_Refused) (.ref a_Refused) = some true
end N00

set_option Elab.async false
set_option linter.all false
set_option maxRecDepth 100000
set_option maxHeartbeats 4000000
namespace N00
open PySem PySem.Spec PyProof.Rows L2 RW

/-! what is drawn from: the start, a number, one of several (made from wip/tools/Vd.txt) -/
def cellF (ns : List Int) (i : Nat) : Int := if i < ns.length then ns.getD i 0 else 167 * (i : Nat) + 59
def big : Int := (10 ^ (57 : Int).toNat) ^ (7 : Int).toNat
theorem big_pos : 0 < big := by unfold big; decide +kernel
def greatF (ns : List Int) (i : Nat) : Int := ((cellF ns i).natAbs : Int) % big
def seedF (ns : List Int) (i : Nat) : Int := greatF ns i % 2305843009213693921 * 61 + 6473 * (i : Nat) + 31 * b2i (decide (cellF ns i < 0)) + 89
def vatF (ns : List Int) (i : Nat) : Vt := (max 0 (greatF ns i - 10 ^ (16 : Int).toNat), seedF ns i % 2305843009213693951, 0)
def oneF (v : Vt) : Int := (v.2.1 + 67867979 * (v.2.2 + 1)) % 2305843009213693951
def twoF (v : Vt) : Int := (oneF v * oneF v + 49979687) % 2305843009213693907 * 86028121 + oneF v + 23 * (v.2.2 + 1)
def drawF (v : Vt) (t : Int) : Int × Vt := if 0 < v.1 then (v.1 % t, (v.1 / t, v.2.1, v.2.2)) else (twoF v / 65537 % t, (v.1, v.2.1, v.2.2 + 1))
theorem draw_nn (v : Vt) {t : Int} (h : 0 < t) : 0 ≤ (drawF v t).1 := by
  unfold drawF; split <;> exact Int.emod_nonneg _ (by omega)
theorem draw_lt (v : Vt) {t : Int} (h : 0 < t) : (drawF v t).1 < t := by
  unfold drawF; split <;> exact Int.emod_lt_of_pos _ h
def gDrawF (ss : List Sl) (S : List Dat) (r : Dat) (S' : List Dat) : Prop := ∃ (k : Nat) (v : Vt) (t : Int), ss = [.c k, .d (.int t)] ∧ S[k]? = some (vatD v) ∧ 0 < t ∧ t < 2 ^ 100 ∧ r = .int (drawF v t).1 ∧ S' = S.set k (vatD (drawF v t).2)
section
variable {P : Program} {w : World} {K : PySem.W.Frag} {mg : Str → Option Value} {base : Heap}

theorem ok__law_pail (T : Txt K mg) : FnOk P w K mg base CX0 1 T.a__law_pail T.d__law_pail ["script", "spot"] (SpN K (fun ss S r S' => gVat ss S r S' vatF)) := by
  refine T.F__law_pail.ok sc__law_pail (spn_len (k := 2) fun ss S r S' hg => ?_) (fun cdv A outer s H vs Q E hr h => ⟨_, (pss_cons (ps_set (i := 2) sc__law_pail.nd rfl (by first | exact Or.inl rfl | exact Or.inr rfl) (pe_ifExp (pt_cmpR op_lt (pv 1) (pe_callB (call_lenK K) (by rfl) T.n_len (by decide +kernel) (pa_cons (pv 0) pa_nil)) (nomark _)) (pe_callTy call_intD (by rfl) T.n_int (by decide +kernel) (pa_cons (pe_ix (ix_seqK K) (pv 0) (pv 1) (fun _ _ => rfl)) pa_nil)) (pe_op op_add (pe_op op_mul pe_int (pv 1)) pe_int))) (pss_cons (ps_set (i := 3) sc__law_pail.nd rfl (by first | exact Or.inl rfl | exact Or.inr rfl) (pe_op op_mod (pe_callB call_absD (by rfl) T.n_abs (by decide +kernel) (pa_cons (pv 2) pa_nil)) (pe_op op_powW (pe_op op_powW pe_int pe_int) pe_int))) (pss_cons (ps_set (i := 4) sc__law_pail.nd rfl (by first | exact Or.inl rfl | exact Or.inr rfl) (pe_callTy call_intD (by rfl) T.n_int (by decide +kernel) (pa_cons (pe_op op_add (pe_op op_add (pe_op op_add (pe_op op_mul (pe_op op_mod (pv 3) pe_int) pe_int) (pe_op op_mul pe_int (pv 1))) (pe_op op_mul pe_int (pe_callTy call_intD (by rfl) T.n_int (by decide +kernel) (pa_cons (pe_cmpR op_lt (pv 2) pe_int (nomark _)) pa_nil)))) pe_int) pa_nil))) (pss_one (ps_ret (pe_lst (pa_cons (pe_callB (call_max2D rfl) (by rfl) T.n_max (by decide +kernel) (pa_cons pe_int (pa_cons (pe_op op_sub (pv 3) (pe_op op_powW pe_int pe_int)) pa_nil))) (pa_cons (pe_op op_mod (pv 4) pe_int) (pa_cons pe_int pa_nil))))))))), ?_⟩)
  · obtain ⟨i, n, rfl, _⟩ := hg; rfl
  · obtain ⟨B, as, S, ss, r, S', c, rs, ⟨ns, i, rfl, rfl, rfl⟩, q⟩ := h
    have g := EnvR.start (N := ["script", "spot", "cell", "great", "seed"]) rs
    refine raw_set (x := .d (.int (cellF ns i))) (S1 := S') (ev_if (b := decide ((i : Int) < ns.length)) (S1 := S') (et_test (ev_op (ev_var rfl) (ev_cb (ea_cons (ev_var rfl) ea_nil) cd_lenS) o_lt)) (fun hh => ?_) fun hh => ?_) c g fun B1 H1 v c1 x1 g1 => ?_
    · have hlt : i < ns.length := by have := of_decide_eq_true hh; omega
      refine (ev_cb (ea_cons (ev_op (ev_var rfl) (ev_var rfl) (op2_ixS (u := ns.getD i 0) ?_)) ea_nil) cd_int).to ?_
      · rw [atI_n (by rw [List.length_map]; exact hlt), List.getElem_map, List.getD_eq_getElem?_getD, List.getElem?_eq_getElem hlt]; rfl
      · unfold cellF; rw [if_pos hlt]
    · have hlt : ¬ i < ns.length := by have := of_decide_eq_false hh; omega
      refine (ev_op (ev_op ev_int (ev_var rfl) (o_mul (cm_l (by decide) (by decide)))) ev_int o_add).to ?_
      unfold cellF; rw [if_neg hlt]
    · refine raw_set (x := .d (.int (greatF ns i))) (S1 := S') (ev_op (ev_cb (ea_cons (ev_var rfl) ea_nil) cd_abs) (ev_op (ev_op ev_int ev_int (o_powW ⟨by decide, by decide⟩)) ev_int (o_powW ⟨by decide, by decide +kernel⟩)) (o_mod big_pos)) c1 g1 fun B2 H2 v2 c2 x2 g2 => ?_
      refine raw_set (x := .d (.int (seedF ns i))) (S1 := S') (ev_cb (ea_cons (ev_op (ev_op (ev_op (ev_op (ev_op (ev_var rfl) ev_int (o_mod (by decide))) ev_int (o_mul (cm_r (by decide) (by decide)))) (ev_op ev_int (ev_var rfl) (o_mul (cm_l (by decide) (by decide)))) o_add) (ev_op ev_int (ev_cb (ea_cons (ev_op (ev_var rfl) ev_int o_lt) ea_nil) cd_intB) (o_mul (cm_l (by decide) (by decide)))) o_add) ev_int o_add) ea_nil) cd_int) c2 g2 fun B3 H3 v3 c3 x3 g3 => ?_
      refine raw_retN (ds := [.int (vatF ns i).1, .int (vatF ns i).2.1, .int (vatF ns i).2.2]) (S1 := S') (en_lst (ea_cons (ev_cb (ea_cons ev_int (ea_cons (ev_op (ev_var rfl) (ev_op ev_int ev_int (o_powW ⟨by decide, by decide⟩)) o_sub) ea_nil)) cd_max2) (ea_cons (ev_op (ev_var rfl) ev_int (o_mod (by decide))) (ea_cons ev_int ea_nil))) (by show 3 ≤ sizeLine; decide)) c3 g3 fun p B4 H4 ws c4 x4 hp hb hl r3 => q p B4 H4 ws c4 (((x1.trans x2).trans x3).trans x4) ⟨hp.1, ((x1.trans x2).trans x3).oldN hp.2⟩ hb hl r3
theorem ok__law_scooped (T : Txt K mg) : FnOk P w K mg base CX0 1 T.a__law_scooped T.d__law_scooped ["pail", "total"] (SpD K (gDrawF)) := by
  refine T.F__law_scooped.ok sc__law_scooped (spd_len (k := 2) fun ss S r S' hg => ?_) (fun cdv A outer s H vs Q E hr h => ⟨_, (pss_cons (ps_if (pt_cmpR op_gt (pe_ix (ix_seqK K) (pv 0) pe_int (fun _ _ => rfl)) pe_int (nomark _)) (pss_cons (ps_set (i := 2) sc__law_scooped.nd rfl (by first | exact Or.inl rfl | exact Or.inr rfl) (pe_op op_mod (pe_callTy call_intD (by rfl) T.n_int (by decide +kernel) (pa_cons (pe_ix (ix_seqK K) (pv 0) pe_int (fun _ _ => rfl)) pa_nil)) (pv 1))) (pss_cons (ps_asg (pe_op op_fdivW (pe_ix (ix_seqK K) (pv 0) pe_int (fun _ _ => rfl)) (pv 1)) (pg_sub (pv 0) pe_int set_list)) (pss_one (ps_ret (pv 2))))) pss_nil) (pss_cons (ps_asg (pe_op op_add (pe_ix (ix_seqK K) (pv 0) pe_int (fun _ _ => rfl)) pe_int) (pg_sub (pv 0) pe_int set_list)) (pss_cons (ps_set (i := 3) sc__law_scooped.nd rfl (by first | exact Or.inl rfl | exact Or.inr rfl) (pe_op op_mod (pe_callTy call_intD (by rfl) T.n_int (by decide +kernel) (pa_cons (pe_op op_add (pe_ix (ix_seqK K) (pv 0) pe_int (fun _ _ => rfl)) (pe_op op_mul pe_int (pe_ix (ix_seqK K) (pv 0) pe_int (fun _ _ => rfl)))) pa_nil)) pe_int)) (pss_cons (ps_set (i := 4) sc__law_scooped.nd rfl (by first | exact Or.inl rfl | exact Or.inr rfl) (pe_op op_add (pe_op op_add (pe_op op_mul (pe_op op_mod (pe_callTy call_intD (by rfl) T.n_int (by decide +kernel) (pa_cons (pe_op op_add (pe_op op_mul (pv 3) (pv 3)) pe_int) pa_nil)) pe_int) pe_int) (pv 3)) (pe_op op_mul pe_int (pe_ix (ix_seqK K) (pv 0) pe_int (fun _ _ => rfl))))) (pss_one (ps_ret (pe_op op_mod (pe_callTy call_intD (by rfl) T.n_int (by decide +kernel) (pa_cons (pe_op op_fdivW (pv 4) pe_int) pa_nil)) (pv 1)))))))), sp_body h fun ss S r S' hg => ?_⟩)
  · obtain ⟨k, v, t, rfl, _⟩ := hg; rfl
  · obtain ⟨k, v, t, rfl, hk, ht, htw, rfl, rfl⟩ := hg
    have hs : ∀ (x : Dat), (S.set k x).take S.length = S.set k x := fun x => List.take_of_length_le (by simp)
    refine sp_ifq (b := decide (0 < v.1)) (et_test (ev_op (ev_op (ev_var rfl) ev_int (op2_ix (.cell hk) rfl)) ev_int o_gt)) (fun hh => ?_) fun hh => sp_nextq ?_
    · have hp := of_decide_eq_true hh
      have e : drawF v t = (v.1 % t, (v.1 / t, v.2.1, v.2.2)) := by unfold drawF; rw [if_pos hp]
      refine sp_assoc (sp_set (ev_op (ev_cb (ea_cons (ev_op (ev_var rfl) ev_int (op2_ix (.cell hk) rfl)) ea_nil) cd_int) (ev_var rfl) (o_mod ht)) (sp_assoc (sp_setitem (j := 0) (ev_op (ev_op (ev_var rfl) ev_int (op2_ix (.cell hk) rfl)) (ev_var rfl) (o_fdivW ⟨ht, ?_⟩)) (ev_var rfl) ev_int hk rfl (sp_retq (sp_ret (ev_var rfl) ⟨by rw [e], by rw [e]; exact hs _⟩)))))
      have h2 : t.natAbs < 2 ^ 100 := by omega
      have : t.natAbs.log2 < 100 := (Nat.log2_lt (by omega)).mpr h2
      omega
    · have hp := of_decide_eq_false hh
      have e : drawF v t = (twoF v / 65537 % t, (v.1, v.2.1, v.2.2 + 1)) := by unfold drawF; rw [if_neg hp]
      have h1 : 0 ≤ oneF v ∧ oneF v < 2305843009213693951 := ⟨Int.emod_nonneg _ (by decide), Int.emod_lt_of_pos _ (by decide)⟩
      refine sp_setitem (j := 2) (ev_op (ev_op (ev_var rfl) ev_int (op2_ix (.cell hk) rfl)) ev_int o_add) (ev_var rfl) ev_int hk rfl ?_
      have hk2 := set_get (e := .lst [.int v.1, .int v.2.1, .int (v.2.2 + 1)]) hk
      refine sp_set (x := .d (.int (oneF v))) (ev_op (ev_cb (ea_cons (ev_op (ev_op (ev_var rfl) ev_int (op2_ix (.cell hk2) rfl)) (ev_op ev_int (ev_op (ev_var rfl) ev_int (op2_ix (.cell hk2) rfl)) (o_mul (cm_l (by decide) (by decide)))) o_add) ea_nil) cd_int) ev_int (o_mod (by decide))) ?_
      refine sp_set (x := .d (.int (twoF v))) (ev_op (ev_op (ev_op (ev_op (ev_cb (ea_cons (ev_op (ev_op (ev_var rfl) (ev_var rfl) (o_mul (cm_l ?_ ?_))) ev_int o_add) ea_nil) cd_int) ev_int (o_mod (by decide))) ev_int (o_mul (cm_r (by decide) (by decide)))) (ev_var rfl) o_add) (ev_op ev_int (ev_op (ev_var rfl) ev_int (op2_ix (.cell hk2) rfl)) (o_mul (cm_l (by decide) (by decide)))) o_add) ?_
      · omega
      · omega
      · exact sp_ret (ev_op (ev_cb (ea_cons (ev_op (ev_var rfl) ev_int (o_fdivW ⟨by decide, by decide⟩)) ea_nil) cd_int) (ev_var rfl) (o_mod ht)) ⟨by rw [e], by rw [e]; exact hs _⟩
theorem ok__law_any_of (T : Txt K mg) : FnOk P w K mg base CX0 2 T.a__law_any_of T.d__law_any_of ["pail", "items"] (SpE K gPick) := by
  have G__law_scooped := ok__law_scooped (P := P) (w := w) (base := base) T
  have b__law_scooped := T.b__law_scooped
  refine T.F__law_any_of.ok sc__law_any_of (spe_len (k := 2) fun ss S post hg => ?_) (fun cdv A outer s H vs Q E hr h => ⟨_, (pss_one (ps_ret (pe_ix (ix_seqK K) (pv 1) (pe_call G__law_scooped (hr.mono (by decide)) rfl T.m__law_scooped T.k__law_scooped b__law_scooped .nil pass0 (pa_cons (pv 0) (pa_cons (pe_callB (call_lenK K) (by rfl) T.n_len (by decide +kernel) (pa_cons (pv 1) pa_nil)) pa_nil))) (fun _ _ => rfl)))), sp_bodyE h fun ss S post hg => ?_⟩)
  · obtain ⟨k, v, d, ds, rfl, _⟩ := hg; rfl
  · obtain ⟨k, v, d, ds, rfl, hd, hk, hne, hl, rfl⟩ := hg
    have hp : 0 < (ds.length : Int) := by have := List.length_pos_iff.mpr hne; omega
    have hsq : ∀ {T : List Dat}, Seq T (.d d) ds := fun {T} => by
      rcases hd with rfl | rfl
      · exact .lst
      · exact .tup
    have h1 := draw_nn v hp
    have h2 := draw_lt v hp
    have hlt : (drawF v ds.length).1.toNat < ds.length := by omega
    refine sp_retE (post := fun r T => r = .d ds[(drawF v ds.length).1.toNat] ∧ T = S.set k (vatD (drawF v ds.length).2)) ((ev_op (ev_var rfl) (ev_call (ea_cons (ev_var rfl) (ea_cons (ev_cb (ea_cons (ev_var rfl) ea_nil) (cd_len hsq)) ea_nil)) ⟨k, v, ds.length, rfl, hk, hp, by omega, rfl, rfl⟩) (op2_ix hsq ?_)).e1 ⟨rfl, rfl⟩) fun r T ⟨h1, h2⟩ => ⟨_, h1, List.getElem_mem _, (drawF v ds.length).2, by rw [h2]; exact List.take_of_length_le (by simp)⟩
    have e : (drawF v ds.length).1 = ((drawF v ds.length).1.toNat : Int) := by omega
    have := atI_n hlt
    rwa [← e] at this
end
theorem szd {n : Nat} (h : n ≤ 1000) : n ≤ sizeLine := by rw [sizeLine_eq]; omega
section
variable {K : PySem.W.Frag} {n : Nat} {te : TE} {env : Env1} {S S1 : List Dat} {x : Sl} {P : Post} {u : TS} {E : XK} {C : Addr}
theorem sp_raiseV (h : Ev K te env S x S1) (hP : P.ok = XOk K E (.exc C none) (S1.take n)) : SP K n (fun _ σ H => te σ H fun _ H1 => E (.ref C) none H1) env S P := fun B0 H0 as0 Bk B H as σ hl f c g D m =>
  h B H as σ c g _ fun v B1 H1 c1 e1 r1 => m.want hP f hl rfl none B1 H1 c1 e1 rfl
theorem sp_raiseVq (h : Ev K te env S x S1) (hP : P.ok = XOk K E (.exc C none) (S1.take n)) : SP K n (tSeq (fun _ σ H => te σ H fun _ H1 => E (.ref C) none H1) u) env S P := fun B0 H0 as0 Bk B H as σ hl f c g D m =>
  h B H as σ c g _ fun v B1 H1 c1 e1 r1 => m.want hP f hl rfl none B1 H1 c1 e1 rfl
end
/-! the words, their classes, what they keep -/
structure Row where
  w : String
  C : Addr
  f : Option String
section
variable {K : PySem.W.Frag} {mg : Str → Option Value}
def rowsA (T : Txt K mg) : List Row := [⟨"row", T.a_InvalidRow, none⟩, ⟨"lot", T.a_InvalidLot, none⟩, ⟨"reading", T.a_InvalidReading, none⟩, ⟨"network", T.a_InvalidNetwork, none⟩, ⟨"growth", T.a_InvalidGrowth, none⟩, ⟨"operation", T.a_InvalidOperation, none⟩, ⟨"text", T.a_InvalidText, none⟩, ⟨"claim", T.a_InvalidClaim, none⟩, ⟨"parse", T.a_ParseError, some "spot"⟩, ⟨"ramp", T.a_RampError, none⟩]
def rowsB (T : Txt K mg) : List Row := [⟨"number", T.a_InvalidNumber, some "given"⟩, ⟨"unknown", T.a_UnknownName, some "wanted"⟩, ⟨"many", T.a_TooMany, some "limit"⟩, ⟨"undo", T.a_NothingToUndo, some "done"⟩, ⟨"refused", T.a_Refused, some "reason"⟩]
def outR (e : Row) (x : Dat) : Out := .exc e.C (e.f.map fun f => (Str.ofString f, x))
def gRs (rows : List Row) (ss : List Sl) (S : List Dat) (o : Out) (S' : List Dat) : Prop := ∃ (e : Row) (x : Dat), ss = [.d (.str (Str.ofString e.w)), .d x] ∧ e ∈ rows ∧ o = outR e x ∧ S' = S
end
abbrev WA : List String := ["row", "lot", "reading", "network", "growth", "operation", "text", "claim", "parse", "ramp"]
abbrev WB : List String := ["number", "unknown", "many", "undo", "refused"]
theorem words_apart : ∀ w ∈ WB, ∀ s ∈ WA, ¬ Str.ofString w = Str.ofString s := by decide +kernel
section
variable {P : Program} {w : World} {K : PySem.W.Frag} {mg : Str → Option Value} {base : Heap}

theorem ok_ParseErroru_initu (T : Txt K mg) : FnOk P w K mg base CX0 1 T.a_ParseErroru_initu T.d_ParseErroru_initu ["self", "spot"] (spXi K T.a_ParseError "spot") := by
  exact T.F_ParseErroru_initu.ok sc_ParseErroru_initu (fun vs H Q E h => spxi_len vs H Q E h) fun cdv A outer s H vs Q E hr h => ⟨_, (pss_one (ps_ost (pv 0) (pv 1))), spxi_body h rfl⟩
theorem ok_InvalidNumberu_initu (T : Txt K mg) : FnOk P w K mg base CX0 1 T.a_InvalidNumberu_initu T.d_InvalidNumberu_initu ["self", "given"] (spXg K T.a_InvalidNumber "given") := by
  exact T.F_InvalidNumberu_initu.ok sc_InvalidNumberu_initu (fun vs H Q E h => spxg_len vs H Q E h) fun cdv A outer s H vs Q E hr h => ⟨_, (pss_one (ps_xset (pv 0) (pv 1))), spxg_body h rfl⟩
theorem ok_UnknownNameu_initu (T : Txt K mg) : FnOk P w K mg base CX0 1 T.a_UnknownNameu_initu T.d_UnknownNameu_initu ["self", "wanted"] (spXg K T.a_UnknownName "wanted") := by
  exact T.F_UnknownNameu_initu.ok sc_UnknownNameu_initu (fun vs H Q E h => spxg_len vs H Q E h) fun cdv A outer s H vs Q E hr h => ⟨_, (pss_one (ps_xset (pv 0) (pv 1))), spxg_body h rfl⟩
theorem ok_TooManyu_initu (T : Txt K mg) : FnOk P w K mg base CX0 1 T.a_TooManyu_initu T.d_TooManyu_initu ["self", "limit"] (spXg K T.a_TooMany "limit") := by
  exact T.F_TooManyu_initu.ok sc_TooManyu_initu (fun vs H Q E h => spxg_len vs H Q E h) fun cdv A outer s H vs Q E hr h => ⟨_, (pss_one (ps_xset (pv 0) (pv 1))), spxg_body h rfl⟩
theorem ok_NothingToUndou_initu (T : Txt K mg) : FnOk P w K mg base CX0 1 T.a_NothingToUndou_initu T.d_NothingToUndou_initu ["self", "done"] (spXg K T.a_NothingToUndo "done") := by
  exact T.F_NothingToUndou_initu.ok sc_NothingToUndou_initu (fun vs H Q E h => spxg_len vs H Q E h) fun cdv A outer s H vs Q E hr h => ⟨_, (pss_one (ps_xset (pv 0) (pv 1))), spxg_body h rfl⟩
theorem ok_Refusedu_initu (T : Txt K mg) : FnOk P w K mg base CX0 1 T.a_Refusedu_initu T.d_Refusedu_initu ["self", "reason"] (spXg K T.a_Refused "reason") := by
  exact T.F_Refusedu_initu.ok sc_Refusedu_initu (fun vs H Q E h => spxg_len vs H Q E h) fun cdv A outer s H vs Q E hr h => ⟨_, (pss_one (ps_xset (pv 0) (pv 1))), spxg_body h rfl⟩
theorem ok__law_raise_kept (T : Txt K mg) : FnOk P w K mg base (L2.CX P w) 3 T.a__law_raise_kept T.d__law_raise_kept ["word", "value"] (SpR K (gRs (rowsB T))) := by
  have G_InvalidNumberu_initu := ok_InvalidNumberu_initu (P := P) (w := w) (base := base) T
  have b_InvalidNumberu_initu := T.b_InvalidNumberu_initu
  have G_UnknownNameu_initu := ok_UnknownNameu_initu (P := P) (w := w) (base := base) T
  have b_UnknownNameu_initu := T.b_UnknownNameu_initu
  have G_TooManyu_initu := ok_TooManyu_initu (P := P) (w := w) (base := base) T
  have b_TooManyu_initu := T.b_TooManyu_initu
  have G_NothingToUndou_initu := ok_NothingToUndou_initu (P := P) (w := w) (base := base) T
  have b_NothingToUndou_initu := T.b_NothingToUndou_initu
  have G_Refusedu_initu := ok_Refusedu_initu (P := P) (w := w) (base := base) T
  have b_Refusedu_initu := T.b_Refusedu_initu
  refine T.F__law_raise_kept.okX sc__law_raise_kept (spr_len (k := 2) fun ss S o S' hg => ?_) (fun cdv A outer s H vs Q E hr h => ⟨_, (pss_cons (ps_if (pt_cmpR op_eq (pv 0) pe_str (nomark _)) (pss_one (ps_raise rfl (takes_of rfl rfl rfl rfl) (pmk_xi T.ox_InvalidNumber T.oi_InvalidNumber T.ot_InvalidNumber G_InvalidNumberu_initu (hr.mono (by decide)) b_InvalidNumberu_initu pass0 rfl T.m_InvalidNumber (pa_cons (pv 1) pa_nil)))) pss_nil) (pss_cons (ps_if (pt_cmpR op_eq (pv 0) pe_str (nomark _)) (pss_one (ps_raise rfl (takes_of rfl rfl rfl rfl) (pmk_xi T.ox_UnknownName T.oi_UnknownName T.ot_UnknownName G_UnknownNameu_initu (hr.mono (by decide)) b_UnknownNameu_initu pass0 rfl T.m_UnknownName (pa_cons (pv 1) pa_nil)))) pss_nil) (pss_cons (ps_if (pt_cmpR op_eq (pv 0) pe_str (nomark _)) (pss_one (ps_raise rfl (takes_of rfl rfl rfl rfl) (pmk_xi T.ox_TooMany T.oi_TooMany T.ot_TooMany G_TooManyu_initu (hr.mono (by decide)) b_TooManyu_initu pass0 rfl T.m_TooMany (pa_cons (pv 1) pa_nil)))) pss_nil) (pss_cons (ps_if (pt_cmpR op_eq (pv 0) pe_str (nomark _)) (pss_one (ps_raise rfl (takes_of rfl rfl rfl rfl) (pmk_xi T.ox_NothingToUndo T.oi_NothingToUndo T.ot_NothingToUndo G_NothingToUndou_initu (hr.mono (by decide)) b_NothingToUndou_initu pass0 rfl T.m_NothingToUndo (pa_cons (pv 1) pa_nil)))) pss_nil) (pss_one (ps_raise rfl (takes_of rfl rfl rfl rfl) (pmk_xi T.ox_Refused T.oi_Refused T.ot_Refused G_Refusedu_initu (hr.mono (by decide)) b_Refusedu_initu pass0 rfl T.m_Refused (pa_cons (pv 1) pa_nil)))))))), sp_bodyR h fun ss S o S' hg => ?_⟩)
  · obtain ⟨e, x, rfl, _⟩ := hg; rfl
  · obtain ⟨e, x, rfl, he, rfl, rfl⟩ := hg
    simp only [rowsB, List.mem_cons, List.not_mem_nil, or_false] at he
    rcases he with rfl | rfl | rfl | rfl | rfl
    · exact sp_ifq (b := true) (S1 := S') (et_test (Ev.to (ev_op (ev_var rfl) ev_str o_eqS) rfl)) (fun _ => sp_raiseGq (E := E) (ea_cons (ev_var rfl) ea_nil) T.ox_InvalidNumber T.nf_InvalidNumber (by show XOk K E _ S' = _; rw [List.take_length]; rfl)) (fun h => by cases h)
    · refine sp_ifq (b := false) (S1 := S') (et_test (Ev.to (ev_op (ev_var rfl) ev_str o_eqS) rfl)) (fun h => by cases h) fun _ => sp_nextq ?_
      exact sp_ifq (b := true) (S1 := S') (et_test (Ev.to (ev_op (ev_var rfl) ev_str o_eqS) rfl)) (fun _ => sp_raiseGq (E := E) (ea_cons (ev_var rfl) ea_nil) T.ox_UnknownName T.nf_UnknownName (by show XOk K E _ S' = _; rw [List.take_length]; rfl)) (fun h => by cases h)
    · refine sp_ifq (b := false) (S1 := S') (et_test (Ev.to (ev_op (ev_var rfl) ev_str o_eqS) rfl)) (fun h => by cases h) fun _ => sp_nextq ?_
      refine sp_ifq (b := false) (S1 := S') (et_test (Ev.to (ev_op (ev_var rfl) ev_str o_eqS) rfl)) (fun h => by cases h) fun _ => sp_nextq ?_
      exact sp_ifq (b := true) (S1 := S') (et_test (Ev.to (ev_op (ev_var rfl) ev_str o_eqS) rfl)) (fun _ => sp_raiseGq (E := E) (ea_cons (ev_var rfl) ea_nil) T.ox_TooMany T.nf_TooMany (by show XOk K E _ S' = _; rw [List.take_length]; rfl)) (fun h => by cases h)
    · refine sp_ifq (b := false) (S1 := S') (et_test (Ev.to (ev_op (ev_var rfl) ev_str o_eqS) rfl)) (fun h => by cases h) fun _ => sp_nextq ?_
      refine sp_ifq (b := false) (S1 := S') (et_test (Ev.to (ev_op (ev_var rfl) ev_str o_eqS) rfl)) (fun h => by cases h) fun _ => sp_nextq ?_
      refine sp_ifq (b := false) (S1 := S') (et_test (Ev.to (ev_op (ev_var rfl) ev_str o_eqS) rfl)) (fun h => by cases h) fun _ => sp_nextq ?_
      exact sp_ifq (b := true) (S1 := S') (et_test (Ev.to (ev_op (ev_var rfl) ev_str o_eqS) rfl)) (fun _ => sp_raiseGq (E := E) (ea_cons (ev_var rfl) ea_nil) T.ox_NothingToUndo T.nf_NothingToUndo (by show XOk K E _ S' = _; rw [List.take_length]; rfl)) (fun h => by cases h)
    · refine sp_ifq (b := false) (S1 := S') (et_test (Ev.to (ev_op (ev_var rfl) ev_str o_eqS) rfl)) (fun h => by cases h) fun _ => sp_nextq ?_
      refine sp_ifq (b := false) (S1 := S') (et_test (Ev.to (ev_op (ev_var rfl) ev_str o_eqS) rfl)) (fun h => by cases h) fun _ => sp_nextq ?_
      refine sp_ifq (b := false) (S1 := S') (et_test (Ev.to (ev_op (ev_var rfl) ev_str o_eqS) rfl)) (fun h => by cases h) fun _ => sp_nextq ?_
      refine sp_ifq (b := false) (S1 := S') (et_test (Ev.to (ev_op (ev_var rfl) ev_str o_eqS) rfl)) (fun h => by cases h) fun _ => sp_nextq ?_
      exact sp_raiseG (E := E) (ea_cons (ev_var rfl) ea_nil) T.ox_Refused T.nf_Refused (by show XOk K E _ S' = _; rw [List.take_length]; rfl)
theorem ok__law_raise (T : Txt K mg) : FnOk P w K mg base (L2.CX P w) 4 T.a__law_raise T.d__law_raise ["word", "value"] (SpR K (gRs (rowsA T ++ rowsB T))) := by
  have G_ParseErroru_initu := ok_ParseErroru_initu (P := P) (w := w) (base := base) T
  have b_ParseErroru_initu := T.b_ParseErroru_initu
  have G__law_raise_kept := ok__law_raise_kept (P := P) (w := w) (base := base) T
  have b__law_raise_kept := T.b__law_raise_kept
  refine T.F__law_raise.okX sc__law_raise (spr_len (k := 2) fun ss S o S' hg => ?_) (fun cdv A outer s H vs Q E hr h => ⟨_, (pss_cons (ps_if (pt_cmpR op_eq (pv 0) pe_str (nomark _)) (pss_one (ps_raise rfl (takes_of rfl rfl rfl rfl) (pmk_ownV PySem.F.excBase_ValueError T.x_InvalidRow T.m_InvalidRow T.k_InvalidRow (raises_own T.be_InvalidRow T.ty_InvalidRow) (by exact rfl) (pv 1)))) pss_nil) (pss_cons (ps_if (pt_cmpR op_eq (pv 0) pe_str (nomark _)) (pss_one (ps_raise rfl (takes_of rfl rfl rfl rfl) (pmk_ownV PySem.F.excBase_ValueError T.x_InvalidLot T.m_InvalidLot T.k_InvalidLot (raises_own T.be_InvalidLot T.ty_InvalidLot) (by exact rfl) (pv 1)))) pss_nil) (pss_cons (ps_if (pt_cmpR op_eq (pv 0) pe_str (nomark _)) (pss_one (ps_raise rfl (takes_of rfl rfl rfl rfl) (pmk_ownV PySem.F.excBase_ValueError T.x_InvalidReading T.m_InvalidReading T.k_InvalidReading (raises_own T.be_InvalidReading T.ty_InvalidReading) (by exact rfl) (pv 1)))) pss_nil) (pss_cons (ps_if (pt_cmpR op_eq (pv 0) pe_str (nomark _)) (pss_one (ps_raise rfl (takes_of rfl rfl rfl rfl) (pmk_ownV PySem.F.excBase_ValueError T.x_InvalidNetwork T.m_InvalidNetwork T.k_InvalidNetwork (raises_own T.be_InvalidNetwork T.ty_InvalidNetwork) (by exact rfl) (pv 1)))) pss_nil) (pss_cons (ps_if (pt_cmpR op_eq (pv 0) pe_str (nomark _)) (pss_one (ps_raise rfl (takes_of rfl rfl rfl rfl) (pmk_ownV PySem.F.excBase_ValueError T.x_InvalidGrowth T.m_InvalidGrowth T.k_InvalidGrowth (raises_own T.be_InvalidGrowth T.ty_InvalidGrowth) (by exact rfl) (pv 1)))) pss_nil) (pss_cons (ps_if (pt_cmpR op_eq (pv 0) pe_str (nomark _)) (pss_one (ps_raise rfl (takes_of rfl rfl rfl rfl) (pmk_ownV PySem.F.excBase_ValueError T.x_InvalidOperation T.m_InvalidOperation T.k_InvalidOperation (raises_own T.be_InvalidOperation T.ty_InvalidOperation) (by exact rfl) (pv 1)))) pss_nil) (pss_cons (ps_if (pt_cmpR op_eq (pv 0) pe_str (nomark _)) (pss_one (ps_raise rfl (takes_of rfl rfl rfl rfl) (pmk_ownV PySem.F.excBase_ValueError T.x_InvalidText T.m_InvalidText T.k_InvalidText (raises_own T.be_InvalidText T.ty_InvalidText) (by exact rfl) (pv 1)))) pss_nil) (pss_cons (ps_if (pt_cmpR op_eq (pv 0) pe_str (nomark _)) (pss_one (ps_raise rfl (takes_of rfl rfl rfl rfl) (pmk_ownV PySem.F.excBase_ValueError T.x_InvalidClaim T.m_InvalidClaim T.k_InvalidClaim (raises_own T.be_InvalidClaim T.ty_InvalidClaim) (by exact rfl) (pv 1)))) pss_nil) (pss_cons (ps_if (pt_cmpR op_eq (pv 0) pe_str (nomark _)) (pss_one (ps_raise rfl (takes_of rfl rfl rfl rfl) (pmk_oex T.ox_ParseError T.oi_ParseError T.ot_ParseError G_ParseErroru_initu (hr.mono (by decide)) b_ParseErroru_initu .nil pass0 rfl T.m_ParseError (pa_cons (pv 1) pa_nil)))) pss_nil) (pss_cons (ps_if (pt_cmpR op_eq (pv 0) pe_str (nomark _)) (pss_one (ps_raise rfl (takes_of rfl rfl rfl rfl) (pmk_ownV PySem.F.excBase_ValueError T.x_RampError T.m_RampError T.k_RampError (raises_own T.be_RampError T.ty_RampError) (by exact rfl) (pv 1)))) pss_nil) (pss_one (ps_expr (pe_call G__law_raise_kept (hr.mono (by decide)) rfl T.m__law_raise_kept T.k__law_raise_kept b__law_raise_kept .nil (passR (takes_of rfl rfl rfl rfl)) (pa_cons (pv 0) (pa_cons (pv 1) pa_nil))))))))))))))), sp_bodyR h fun ss S o S' hg => ?_⟩)
  · obtain ⟨e, x, rfl, _⟩ := hg; rfl
  · obtain ⟨e, x, rfl, he, rfl, rfl⟩ := hg
    rcases List.mem_append.mp he with he | he
    · simp only [rowsA, List.mem_cons, List.not_mem_nil, or_false] at he
      rcases he with rfl | rfl | rfl | rfl | rfl | rfl | rfl | rfl | rfl | rfl
      · exact sp_ifq (b := true) (S1 := S') (et_test (Ev.to (ev_op (ev_var rfl) ev_str o_eqS) rfl)) (fun _ => sp_raiseVq (E := E) (ev_var rfl) (by show XOk K E _ S' = _; rw [List.take_length]; rfl)) (fun h => by cases h)
      · refine sp_ifq (b := false) (S1 := S') (et_test (Ev.to (ev_op (ev_var rfl) ev_str o_eqS) rfl)) (fun h => by cases h) fun _ => sp_nextq ?_
        exact sp_ifq (b := true) (S1 := S') (et_test (Ev.to (ev_op (ev_var rfl) ev_str o_eqS) rfl)) (fun _ => sp_raiseVq (E := E) (ev_var rfl) (by show XOk K E _ S' = _; rw [List.take_length]; rfl)) (fun h => by cases h)
      · refine sp_ifq (b := false) (S1 := S') (et_test (Ev.to (ev_op (ev_var rfl) ev_str o_eqS) rfl)) (fun h => by cases h) fun _ => sp_nextq ?_
        refine sp_ifq (b := false) (S1 := S') (et_test (Ev.to (ev_op (ev_var rfl) ev_str o_eqS) rfl)) (fun h => by cases h) fun _ => sp_nextq ?_
        exact sp_ifq (b := true) (S1 := S') (et_test (Ev.to (ev_op (ev_var rfl) ev_str o_eqS) rfl)) (fun _ => sp_raiseVq (E := E) (ev_var rfl) (by show XOk K E _ S' = _; rw [List.take_length]; rfl)) (fun h => by cases h)
      · refine sp_ifq (b := false) (S1 := S') (et_test (Ev.to (ev_op (ev_var rfl) ev_str o_eqS) rfl)) (fun h => by cases h) fun _ => sp_nextq ?_
        refine sp_ifq (b := false) (S1 := S') (et_test (Ev.to (ev_op (ev_var rfl) ev_str o_eqS) rfl)) (fun h => by cases h) fun _ => sp_nextq ?_
        refine sp_ifq (b := false) (S1 := S') (et_test (Ev.to (ev_op (ev_var rfl) ev_str o_eqS) rfl)) (fun h => by cases h) fun _ => sp_nextq ?_
        exact sp_ifq (b := true) (S1 := S') (et_test (Ev.to (ev_op (ev_var rfl) ev_str o_eqS) rfl)) (fun _ => sp_raiseVq (E := E) (ev_var rfl) (by show XOk K E _ S' = _; rw [List.take_length]; rfl)) (fun h => by cases h)
      · refine sp_ifq (b := false) (S1 := S') (et_test (Ev.to (ev_op (ev_var rfl) ev_str o_eqS) rfl)) (fun h => by cases h) fun _ => sp_nextq ?_
        refine sp_ifq (b := false) (S1 := S') (et_test (Ev.to (ev_op (ev_var rfl) ev_str o_eqS) rfl)) (fun h => by cases h) fun _ => sp_nextq ?_
        refine sp_ifq (b := false) (S1 := S') (et_test (Ev.to (ev_op (ev_var rfl) ev_str o_eqS) rfl)) (fun h => by cases h) fun _ => sp_nextq ?_
        refine sp_ifq (b := false) (S1 := S') (et_test (Ev.to (ev_op (ev_var rfl) ev_str o_eqS) rfl)) (fun h => by cases h) fun _ => sp_nextq ?_
        exact sp_ifq (b := true) (S1 := S') (et_test (Ev.to (ev_op (ev_var rfl) ev_str o_eqS) rfl)) (fun _ => sp_raiseVq (E := E) (ev_var rfl) (by show XOk K E _ S' = _; rw [List.take_length]; rfl)) (fun h => by cases h)
      · refine sp_ifq (b := false) (S1 := S') (et_test (Ev.to (ev_op (ev_var rfl) ev_str o_eqS) rfl)) (fun h => by cases h) fun _ => sp_nextq ?_
        refine sp_ifq (b := false) (S1 := S') (et_test (Ev.to (ev_op (ev_var rfl) ev_str o_eqS) rfl)) (fun h => by cases h) fun _ => sp_nextq ?_
        refine sp_ifq (b := false) (S1 := S') (et_test (Ev.to (ev_op (ev_var rfl) ev_str o_eqS) rfl)) (fun h => by cases h) fun _ => sp_nextq ?_
        refine sp_ifq (b := false) (S1 := S') (et_test (Ev.to (ev_op (ev_var rfl) ev_str o_eqS) rfl)) (fun h => by cases h) fun _ => sp_nextq ?_
        refine sp_ifq (b := false) (S1 := S') (et_test (Ev.to (ev_op (ev_var rfl) ev_str o_eqS) rfl)) (fun h => by cases h) fun _ => sp_nextq ?_
        exact sp_ifq (b := true) (S1 := S') (et_test (Ev.to (ev_op (ev_var rfl) ev_str o_eqS) rfl)) (fun _ => sp_raiseVq (E := E) (ev_var rfl) (by show XOk K E _ S' = _; rw [List.take_length]; rfl)) (fun h => by cases h)
      · refine sp_ifq (b := false) (S1 := S') (et_test (Ev.to (ev_op (ev_var rfl) ev_str o_eqS) rfl)) (fun h => by cases h) fun _ => sp_nextq ?_
        refine sp_ifq (b := false) (S1 := S') (et_test (Ev.to (ev_op (ev_var rfl) ev_str o_eqS) rfl)) (fun h => by cases h) fun _ => sp_nextq ?_
        refine sp_ifq (b := false) (S1 := S') (et_test (Ev.to (ev_op (ev_var rfl) ev_str o_eqS) rfl)) (fun h => by cases h) fun _ => sp_nextq ?_
        refine sp_ifq (b := false) (S1 := S') (et_test (Ev.to (ev_op (ev_var rfl) ev_str o_eqS) rfl)) (fun h => by cases h) fun _ => sp_nextq ?_
        refine sp_ifq (b := false) (S1 := S') (et_test (Ev.to (ev_op (ev_var rfl) ev_str o_eqS) rfl)) (fun h => by cases h) fun _ => sp_nextq ?_
        refine sp_ifq (b := false) (S1 := S') (et_test (Ev.to (ev_op (ev_var rfl) ev_str o_eqS) rfl)) (fun h => by cases h) fun _ => sp_nextq ?_
        exact sp_ifq (b := true) (S1 := S') (et_test (Ev.to (ev_op (ev_var rfl) ev_str o_eqS) rfl)) (fun _ => sp_raiseVq (E := E) (ev_var rfl) (by show XOk K E _ S' = _; rw [List.take_length]; rfl)) (fun h => by cases h)
      · refine sp_ifq (b := false) (S1 := S') (et_test (Ev.to (ev_op (ev_var rfl) ev_str o_eqS) rfl)) (fun h => by cases h) fun _ => sp_nextq ?_
        refine sp_ifq (b := false) (S1 := S') (et_test (Ev.to (ev_op (ev_var rfl) ev_str o_eqS) rfl)) (fun h => by cases h) fun _ => sp_nextq ?_
        refine sp_ifq (b := false) (S1 := S') (et_test (Ev.to (ev_op (ev_var rfl) ev_str o_eqS) rfl)) (fun h => by cases h) fun _ => sp_nextq ?_
        refine sp_ifq (b := false) (S1 := S') (et_test (Ev.to (ev_op (ev_var rfl) ev_str o_eqS) rfl)) (fun h => by cases h) fun _ => sp_nextq ?_
        refine sp_ifq (b := false) (S1 := S') (et_test (Ev.to (ev_op (ev_var rfl) ev_str o_eqS) rfl)) (fun h => by cases h) fun _ => sp_nextq ?_
        refine sp_ifq (b := false) (S1 := S') (et_test (Ev.to (ev_op (ev_var rfl) ev_str o_eqS) rfl)) (fun h => by cases h) fun _ => sp_nextq ?_
        refine sp_ifq (b := false) (S1 := S') (et_test (Ev.to (ev_op (ev_var rfl) ev_str o_eqS) rfl)) (fun h => by cases h) fun _ => sp_nextq ?_
        exact sp_ifq (b := true) (S1 := S') (et_test (Ev.to (ev_op (ev_var rfl) ev_str o_eqS) rfl)) (fun _ => sp_raiseVq (E := E) (ev_var rfl) (by show XOk K E _ S' = _; rw [List.take_length]; rfl)) (fun h => by cases h)
      · refine sp_ifq (b := false) (S1 := S') (et_test (Ev.to (ev_op (ev_var rfl) ev_str o_eqS) rfl)) (fun h => by cases h) fun _ => sp_nextq ?_
        refine sp_ifq (b := false) (S1 := S') (et_test (Ev.to (ev_op (ev_var rfl) ev_str o_eqS) rfl)) (fun h => by cases h) fun _ => sp_nextq ?_
        refine sp_ifq (b := false) (S1 := S') (et_test (Ev.to (ev_op (ev_var rfl) ev_str o_eqS) rfl)) (fun h => by cases h) fun _ => sp_nextq ?_
        refine sp_ifq (b := false) (S1 := S') (et_test (Ev.to (ev_op (ev_var rfl) ev_str o_eqS) rfl)) (fun h => by cases h) fun _ => sp_nextq ?_
        refine sp_ifq (b := false) (S1 := S') (et_test (Ev.to (ev_op (ev_var rfl) ev_str o_eqS) rfl)) (fun h => by cases h) fun _ => sp_nextq ?_
        refine sp_ifq (b := false) (S1 := S') (et_test (Ev.to (ev_op (ev_var rfl) ev_str o_eqS) rfl)) (fun h => by cases h) fun _ => sp_nextq ?_
        refine sp_ifq (b := false) (S1 := S') (et_test (Ev.to (ev_op (ev_var rfl) ev_str o_eqS) rfl)) (fun h => by cases h) fun _ => sp_nextq ?_
        refine sp_ifq (b := false) (S1 := S') (et_test (Ev.to (ev_op (ev_var rfl) ev_str o_eqS) rfl)) (fun h => by cases h) fun _ => sp_nextq ?_
        exact sp_ifq (b := true) (S1 := S') (et_test (Ev.to (ev_op (ev_var rfl) ev_str o_eqS) rfl)) (fun _ => sp_raise1q (E := E) (ea_cons (ev_var rfl) ea_nil) T.ox_ParseError T.nf_ParseError (by show XOk K E _ S' = _; rw [List.take_length]; rfl)) (fun h => by cases h)
      · refine sp_ifq (b := false) (S1 := S') (et_test (Ev.to (ev_op (ev_var rfl) ev_str o_eqS) rfl)) (fun h => by cases h) fun _ => sp_nextq ?_
        refine sp_ifq (b := false) (S1 := S') (et_test (Ev.to (ev_op (ev_var rfl) ev_str o_eqS) rfl)) (fun h => by cases h) fun _ => sp_nextq ?_
        refine sp_ifq (b := false) (S1 := S') (et_test (Ev.to (ev_op (ev_var rfl) ev_str o_eqS) rfl)) (fun h => by cases h) fun _ => sp_nextq ?_
        refine sp_ifq (b := false) (S1 := S') (et_test (Ev.to (ev_op (ev_var rfl) ev_str o_eqS) rfl)) (fun h => by cases h) fun _ => sp_nextq ?_
        refine sp_ifq (b := false) (S1 := S') (et_test (Ev.to (ev_op (ev_var rfl) ev_str o_eqS) rfl)) (fun h => by cases h) fun _ => sp_nextq ?_
        refine sp_ifq (b := false) (S1 := S') (et_test (Ev.to (ev_op (ev_var rfl) ev_str o_eqS) rfl)) (fun h => by cases h) fun _ => sp_nextq ?_
        refine sp_ifq (b := false) (S1 := S') (et_test (Ev.to (ev_op (ev_var rfl) ev_str o_eqS) rfl)) (fun h => by cases h) fun _ => sp_nextq ?_
        refine sp_ifq (b := false) (S1 := S') (et_test (Ev.to (ev_op (ev_var rfl) ev_str o_eqS) rfl)) (fun h => by cases h) fun _ => sp_nextq ?_
        refine sp_ifq (b := false) (S1 := S') (et_test (Ev.to (ev_op (ev_var rfl) ev_str o_eqS) rfl)) (fun h => by cases h) fun _ => sp_nextq ?_
        exact sp_ifq (b := true) (S1 := S') (et_test (Ev.to (ev_op (ev_var rfl) ev_str o_eqS) rfl)) (fun _ => sp_raiseVq (E := E) (ev_var rfl) (by show XOk K E _ S' = _; rw [List.take_length]; rfl)) (fun h => by cases h)
    · have hw : ∀ s ∈ WA, ¬ Str.ofString e.w = Str.ofString s := words_apart e.w (by
        simp only [rowsB, List.mem_cons, List.not_mem_nil, or_false] at he
        rcases he with rfl | rfl | rfl | rfl | rfl <;> simp [WB])
      refine sp_ifq (b := false) (S1 := S') (et_test (Ev.to (ev_op (ev_var rfl) ev_str o_eqS) (by rw [decide_eq_false (hw "row" (by simp [WA]))]))) (fun h => by cases h) fun _ => sp_nextq ?_
      refine sp_ifq (b := false) (S1 := S') (et_test (Ev.to (ev_op (ev_var rfl) ev_str o_eqS) (by rw [decide_eq_false (hw "lot" (by simp [WA]))]))) (fun h => by cases h) fun _ => sp_nextq ?_
      refine sp_ifq (b := false) (S1 := S') (et_test (Ev.to (ev_op (ev_var rfl) ev_str o_eqS) (by rw [decide_eq_false (hw "reading" (by simp [WA]))]))) (fun h => by cases h) fun _ => sp_nextq ?_
      refine sp_ifq (b := false) (S1 := S') (et_test (Ev.to (ev_op (ev_var rfl) ev_str o_eqS) (by rw [decide_eq_false (hw "network" (by simp [WA]))]))) (fun h => by cases h) fun _ => sp_nextq ?_
      refine sp_ifq (b := false) (S1 := S') (et_test (Ev.to (ev_op (ev_var rfl) ev_str o_eqS) (by rw [decide_eq_false (hw "growth" (by simp [WA]))]))) (fun h => by cases h) fun _ => sp_nextq ?_
      refine sp_ifq (b := false) (S1 := S') (et_test (Ev.to (ev_op (ev_var rfl) ev_str o_eqS) (by rw [decide_eq_false (hw "operation" (by simp [WA]))]))) (fun h => by cases h) fun _ => sp_nextq ?_
      refine sp_ifq (b := false) (S1 := S') (et_test (Ev.to (ev_op (ev_var rfl) ev_str o_eqS) (by rw [decide_eq_false (hw "text" (by simp [WA]))]))) (fun h => by cases h) fun _ => sp_nextq ?_
      refine sp_ifq (b := false) (S1 := S') (et_test (Ev.to (ev_op (ev_var rfl) ev_str o_eqS) (by rw [decide_eq_false (hw "claim" (by simp [WA]))]))) (fun h => by cases h) fun _ => sp_nextq ?_
      refine sp_ifq (b := false) (S1 := S') (et_test (Ev.to (ev_op (ev_var rfl) ev_str o_eqS) (by rw [decide_eq_false (hw "parse" (by simp [WA]))]))) (fun h => by cases h) fun _ => sp_nextq ?_
      refine sp_ifq (b := false) (S1 := S') (et_test (Ev.to (ev_op (ev_var rfl) ev_str o_eqS) (by rw [decide_eq_false (hw "ramp" (by simp [WA]))]))) (fun h => by cases h) fun _ => sp_nextq ?_
      exact sp_dropX (ev_callX (ea_cons (ev_var rfl) (ea_cons (ev_var rfl) ea_nil)) ⟨e, x, rfl, he, rfl, rfl⟩) (by show XOk K E _ S' = _; rw [List.take_length]; rfl)
end
end N00

set_option Elab.async false
set_option linter.all false
set_option maxRecDepth 100000
set_option maxHeartbeats 4000000
namespace N00
open PySem PySem.Spec PyProof.Rows L2 RW

theorem roomH_mk {k : Nat} {A : Around} (r : Room k A) (h : Option Value) : L2H.RoomH k (A.mark h) := ⟨r.dp, r.un⟩
/-! what it is caught as, what it keeps, which classes it counts as -/
def resD (w t : Str) (bs : List Bool) : Dat := .tup [.str w, .str t, .lst (bs.map Dat.bl)]
section
variable {K : PySem.W.Frag} {mg : Str → Option Value}
def sRoots (K : PySem.W.Frag) (D a : Addr) (cls : Value) (d : Option Addr) : TE := tCall (spRoots K D a cls d) [] (fun _ _ _ => False) (tCons (tVar 2) tNil)
def sPl (T : Txt K mg) (w : String) : Addr → Value → Option Addr → TS := fun a cls d => tRet (tTup (tCons (tC (.str (Str.ofString w))) (tCons (tC (.str (Str.ofString ""))) (tCons (sRoots K T.a_RampError a cls d) tNil))))
def sKp (T : Txt K mg) (w : String) (C : Addr) (f : String) : Addr → Value → Option Addr → TS := fun a cls d => tRet (tTup (tCons (tC (.str (Str.ofString w))) (tCons (tCB (rReprX K) (tCons (tXf a cls d C (Str.ofString f) (tVar 2)) tNil)) (tCons (sRoots K T.a_RampError a cls d) tNil))))
def Cl (T : Txt K mg) : List Clause := [(.ref T.a_InvalidRow, some 2, sPl T "row"), (.ref T.a_InvalidLot, some 2, sPl T "lot"), (.ref T.a_InvalidReading, some 2, sPl T "reading"), (.ref T.a_InvalidNetwork, some 2, sPl T "network"), (.ref T.a_InvalidGrowth, some 2, sPl T "growth"), (.ref T.a_InvalidOperation, some 2, sPl T "operation"), (.ref T.a_InvalidText, some 2, sPl T "text"), (.ref T.a_InvalidClaim, some 2, sPl T "claim"), (.ref T.a_ParseError, some 2, sKp T "parse" T.a_ParseError "spot"), (.ref T.a_RampError, some 2, sPl T "ramp"), (.ref T.a_InvalidNumber, some 2, sKp T "number" T.a_InvalidNumber "given"), (.ref T.a_UnknownName, some 2, sKp T "unknown" T.a_UnknownName "wanted"), (.ref T.a_NothingToUndo, some 2, sKp T "undo" T.a_NothingToUndo "done"), (.ref T.a_TooMany, some 2, sKp T "many" T.a_TooMany "limit"), (.ref T.a_Refused, some 2, sKp T "refused" T.a_Refused "reason")]
section
variable {B H : Hp} {as : List Addr} {S : List Dat} {C a : Addr} {bs : List Bool} {d : Option Addr} {σ : L2.St} {D : Ends} {w f : String} {x : Dat}
theorem roots_rd (T : Txt K mg) (c : Ok K B H as S) (h2 : σ[2]? = some (some (V.ref a))) (xk : XkC K C) (rt : RootsOk K C T.a_RampError bs) (hd : DictAt H d) {Q : VK} {w t : Str}
    (q : ∀ v B' H', Ok K B' H' as S → Evo B H as B' H' → Rep K B' v (resD w t bs) → Q v H') :
    sRoots K T.a_RampError a (.ref C) d σ H fun x H2 => [V.str w, V.str t, x].length ≤ sizeLine ∧ ∀ p, H2 p = none → Q (.ref p) (upd H2 p (.tup [.str w, .str t, x])) :=
  ⟨.ref a, h2, C, bs, rfl, rfl, xk, rt, hd, fun l H' e n hl => ⟨by show 3 ≤ sizeLine; decide, fun p hp => by
    obtain ⟨c1, e1⟩ := c.grown e n hl (fun _ z => nomatch z)
    exact q (.ref p) _ _ (c1.new hp) (e1.trans (Evo.new c1 hp)) (.tup (Evl.st_of upd_same) (.cons (.str _) (.cons (.str _) (.cons (.lst (Evl.Ex.new (c1.Bnone hp) _ _ upd_same) (reps_bls bs)) .nil))))⟩⟩
theorem pl_run (T : Txt K mg) (c : Ok K B H as S) (hl : σ.length = 3) (xk : XkC K C) (rt : RootsOk K C T.a_RampError bs) (hd : d = none)
    (q : ∀ v B' H', Ok K B' H' as S → Evo B H as B' H' → Rep K B' v (resD (Str.ofString w) (Str.ofString "") bs) → D.rt v H') : suiteRun D (some 2) (sPl T w a (.ref C) d) a σ H := by
  subst hd
  exact roots_rd (d := none) (σ := σ.set 2 (some (.ref a))) T c (List.getElem?_set_self (by omega)) xk rt trivial q
theorem kp_run (T : Txt K mg) (c : Ok K B H as S) (hl : σ.length = 3) (xk : XkC K C) (rt : RootsOk K C T.a_RampError bs) (hx : ShX x) (pa : Pay K B H d (some (Str.ofString f, x)))
    (q : ∀ v B' H', Ok K B' H' as S → Evo B H as B' H' → Rep K B' v (resD (Str.ofString w) (reprD x) bs) → D.rt v H') : suiteRun D (some 2) (sKp T w C f a (.ref C) d) a σ H := by
  obtain ⟨dd, v, rfl, hdd, rv⟩ := pa
  have h2 : (σ.set 2 (some (V.ref a)))[2]? = some (some (V.ref a)) := List.getElem?_set_self (by omega)
  exact ⟨.ref a, h2, rfl, rfl, dd, _, v, rfl, hdd, by simp [List.lookup], rx_ok c.ex hx rv (roots_rd (d := some dd) (σ := σ.set 2 (some (.ref a))) T c h2 xk rt ⟨_, hdd⟩ q)⟩
end
def rootsN (w : String) : List Nat := if w = "number" then [1, 5] else if w = "unknown" then [2, 5] else if w = "many" then [3, 4] else if w = "undo" then [5] else if w = "refused" then [4] else  [0, 6]
def rootsE (w : String) : List Bool := (List.range 7).map fun i => decide (i ∈ rootsN w)
/-- what _law_caught tells of a word and a value -/
inductive Cau : String → Dat → Dat → Prop
  | pl {w : String} {x : Dat} (h : w ∈ ["row", "lot", "reading", "network", "growth", "operation", "text", "claim", "ramp"]) : Cau w x (resD (Str.ofString w) (Str.ofString "") (rootsE w))
  | kp {w : String} {x : Dat} (h : w ∈ ["parse", "number", "unknown", "many", "undo", "refused"]) (hx : ShX x) : Cau w x (resD (Str.ofString w) (reprD x) (rootsE w))
def gCau (ss : List Sl) (S : List Dat) (r : Dat) (S' : List Dat) : Prop := ∃ (w : String) (x : Dat), ss = [.d (.str (Str.ofString w)), .d x] ∧ Cau w x r ∧ S' = S
end
section
variable {P : Program} {w : World} {K : PySem.W.Frag} {mg : Str → Option Value} {base : Heap}

theorem ok__law_roots (T : Txt K mg) : FnP P w K mg base CX0 1 T.a__law_roots T.d__law_roots ["error"] (spRoots K T.a_RampError) := by
  obtain ⟨oc, od, v1, v2, v3, an, cdv, ct, osl, e, lk, hcd⟩ := T.F__law_roots.ex
  rw [e] at lk ⊢
  refine fnp_body (k := 0) lk hcd sc__law_roots (fun a cls d vs H Q E ⟨_, _, _, h, _⟩ => by rw [h]; rfl) fun A up t H xs Q E p cls d hz hf hr h => ?_
  obtain ⟨C, bs, rfl, rfl, x, r, hd, q⟩ := h
  obtain ⟨a, oe⟩ := p
  refine ⟨tRoots K a C T.a_RampError d, ?_, roots_run rfl (show 1 < 2 by decide) hd r q⟩
  exact (pss_cons (ps_set (i := 1) sc__law_roots.nd rfl (by first | exact Or.inl rfl | exact Or.inr rfl) (pe_lst (pa_cons (pe_callB (call_isiP K x (List.mem_singleton.mpr rfl) hz hf) (by rfl) T.n_isinstance (by decide +kernel) (pa_cons (pv 0) (pa_cons (pe_bltn (v := .ty "ValueError") (by rfl) T.n_ValueError (by decide +kernel) rfl) pa_nil))) (pa_cons (pe_callB (call_isiP K x (List.mem_singleton.mpr rfl) hz hf) (by rfl) T.n_isinstance (by decide +kernel) (pa_cons (pv 0) (pa_cons (pe_bltn (v := .ty "IndexError") (by rfl) T.n_IndexError (by decide +kernel) rfl) pa_nil))) (pa_cons (pe_callB (call_isiP K x (List.mem_singleton.mpr rfl) hz hf) (by rfl) T.n_isinstance (by decide +kernel) (pa_cons (pv 0) (pa_cons (pe_bltn (v := .ty "KeyError") (by rfl) T.n_KeyError (by decide +kernel) rfl) pa_nil))) pa_nil))))) (pss_cons (ps_set (i := 1) sc__law_roots.nd rfl (by first | exact Or.inl rfl | exact Or.inr rfl) (pe_op op_cat (pv 1) (pe_lst (pa_cons (pe_callB (call_isiP K x (List.mem_singleton.mpr rfl) hz hf) (by rfl) T.n_isinstance (by decide +kernel) (pa_cons (pv 0) (pa_cons (pe_bltn (v := .ty "OverflowError") (by rfl) T.n_OverflowError (by decide +kernel) rfl) pa_nil))) (pa_cons (pe_callB (call_isiP K x (List.mem_singleton.mpr rfl) hz hf) (by rfl) T.n_isinstance (by decide +kernel) (pa_cons (pv 0) (pa_cons (pe_bltn (v := .ty "ArithmeticError") (by rfl) T.n_ArithmeticError (by decide +kernel) rfl) pa_nil))) pa_nil))))) (pss_one (ps_ret (pe_op op_cat (pv 1) (pe_lst (pa_cons (pe_callB (call_isiP K x (List.mem_singleton.mpr rfl) hz hf) (by rfl) T.n_isinstance (by decide +kernel) (pa_cons (pv 0) (pa_cons (pe_bltn (v := .ty "LookupError") (by rfl) T.n_LookupError (by decide +kernel) rfl) pa_nil))) (pa_cons (pe_callB (call_isiP K x (List.mem_singleton.mpr rfl) hz hf) (by rfl) T.n_isinstance (by decide +kernel) (pa_cons (pv 0) (pa_cons (pe_glob (v := .ref T.a_RampError) rfl T.m_RampError rfl) pa_nil))) pa_nil))))))))
theorem ok__law_caught (T : Txt K mg) : FnG P w K mg base CX0 5 T.a__law_caught T.d__law_caught ["word", "value"] (SpD K gCau) := by
  have G__law_raise := ok__law_raise (P := P) (w := w) (base := base) T
  have b__law_raise := T.b__law_raise
  have GR := ok__law_roots (P := P) (w := w) (base := base) T
  refine Fun.okG T.F__law_caught sc__law_caught (spd_len (k := 2) fun ss S r S' hg => ?_) (fun cdv A outer s H vs Q E hcm hr h => ⟨_, pss_one (ps_try_mix (l := Cl T) (tb := fun W => tDrop (tCallS (SpR K (gRs (rowsA T ++ rowsB T))) (WE W) (tCons (tVar 0) (tCons (tVar 1) tNil)))) rfl rfl takes0 (fun W pn xe tk _ => pss_one (ps_expr (pe_callS G__law_raise (hr.mono (by decide)) rfl T.m__law_raise T.k__law_raise b__law_raise (fun σ => passAt tk σ) (pa_cons (pv 0) (pa_cons (pv 1) pa_nil))))) ?_), ?_⟩)
  · obtain ⟨e, x, rfl, _⟩ := hg; rfl
  · refine .named (m := "error") ⟨rfl, by decide, .inl T.m_InvalidRow⟩ (by show (["word", "value", "error"] : List Str).Nodup; decide) rfl rfl (fun a oe cls d pn hz hf => pss_one (ps_ret (pe_tup (pa_cons pe_str (pa_cons pe_str (pa_cons (pe_callP (p := (a, oe)) (cls := cls) (d := d) (E := fun _ _ _ => False) GR (roomH_mk (hr.mono (by decide)) _) List.mem_cons_self hz hf rfl T.m__law_roots T.k__law_roots T.b__law_roots pass0 (pa_cons (pv 2) pa_nil)) pa_nil)))))) ?_
    refine .named (m := "error") ⟨rfl, by decide, .inl T.m_InvalidLot⟩ (by show (["word", "value", "error"] : List Str).Nodup; decide) rfl rfl (fun a oe cls d pn hz hf => pss_one (ps_ret (pe_tup (pa_cons pe_str (pa_cons pe_str (pa_cons (pe_callP (p := (a, oe)) (cls := cls) (d := d) (E := fun _ _ _ => False) GR (roomH_mk (hr.mono (by decide)) _) List.mem_cons_self hz hf rfl T.m__law_roots T.k__law_roots T.b__law_roots pass0 (pa_cons (pv 2) pa_nil)) pa_nil)))))) ?_
    refine .named (m := "error") ⟨rfl, by decide, .inl T.m_InvalidReading⟩ (by show (["word", "value", "error"] : List Str).Nodup; decide) rfl rfl (fun a oe cls d pn hz hf => pss_one (ps_ret (pe_tup (pa_cons pe_str (pa_cons pe_str (pa_cons (pe_callP (p := (a, oe)) (cls := cls) (d := d) (E := fun _ _ _ => False) GR (roomH_mk (hr.mono (by decide)) _) List.mem_cons_self hz hf rfl T.m__law_roots T.k__law_roots T.b__law_roots pass0 (pa_cons (pv 2) pa_nil)) pa_nil)))))) ?_
    refine .named (m := "error") ⟨rfl, by decide, .inl T.m_InvalidNetwork⟩ (by show (["word", "value", "error"] : List Str).Nodup; decide) rfl rfl (fun a oe cls d pn hz hf => pss_one (ps_ret (pe_tup (pa_cons pe_str (pa_cons pe_str (pa_cons (pe_callP (p := (a, oe)) (cls := cls) (d := d) (E := fun _ _ _ => False) GR (roomH_mk (hr.mono (by decide)) _) List.mem_cons_self hz hf rfl T.m__law_roots T.k__law_roots T.b__law_roots pass0 (pa_cons (pv 2) pa_nil)) pa_nil)))))) ?_
    refine .named (m := "error") ⟨rfl, by decide, .inl T.m_InvalidGrowth⟩ (by show (["word", "value", "error"] : List Str).Nodup; decide) rfl rfl (fun a oe cls d pn hz hf => pss_one (ps_ret (pe_tup (pa_cons pe_str (pa_cons pe_str (pa_cons (pe_callP (p := (a, oe)) (cls := cls) (d := d) (E := fun _ _ _ => False) GR (roomH_mk (hr.mono (by decide)) _) List.mem_cons_self hz hf rfl T.m__law_roots T.k__law_roots T.b__law_roots pass0 (pa_cons (pv 2) pa_nil)) pa_nil)))))) ?_
    refine .named (m := "error") ⟨rfl, by decide, .inl T.m_InvalidOperation⟩ (by show (["word", "value", "error"] : List Str).Nodup; decide) rfl rfl (fun a oe cls d pn hz hf => pss_one (ps_ret (pe_tup (pa_cons pe_str (pa_cons pe_str (pa_cons (pe_callP (p := (a, oe)) (cls := cls) (d := d) (E := fun _ _ _ => False) GR (roomH_mk (hr.mono (by decide)) _) List.mem_cons_self hz hf rfl T.m__law_roots T.k__law_roots T.b__law_roots pass0 (pa_cons (pv 2) pa_nil)) pa_nil)))))) ?_
    refine .named (m := "error") ⟨rfl, by decide, .inl T.m_InvalidText⟩ (by show (["word", "value", "error"] : List Str).Nodup; decide) rfl rfl (fun a oe cls d pn hz hf => pss_one (ps_ret (pe_tup (pa_cons pe_str (pa_cons pe_str (pa_cons (pe_callP (p := (a, oe)) (cls := cls) (d := d) (E := fun _ _ _ => False) GR (roomH_mk (hr.mono (by decide)) _) List.mem_cons_self hz hf rfl T.m__law_roots T.k__law_roots T.b__law_roots pass0 (pa_cons (pv 2) pa_nil)) pa_nil)))))) ?_
    refine .named (m := "error") ⟨rfl, by decide, .inl T.m_InvalidClaim⟩ (by show (["word", "value", "error"] : List Str).Nodup; decide) rfl rfl (fun a oe cls d pn hz hf => pss_one (ps_ret (pe_tup (pa_cons pe_str (pa_cons pe_str (pa_cons (pe_callP (p := (a, oe)) (cls := cls) (d := d) (E := fun _ _ _ => False) GR (roomH_mk (hr.mono (by decide)) _) List.mem_cons_self hz hf rfl T.m__law_roots T.k__law_roots T.b__law_roots pass0 (pa_cons (pv 2) pa_nil)) pa_nil)))))) ?_
    refine .named (m := "error") ⟨rfl, by decide, .inl T.m_ParseError⟩ (by show (["word", "value", "error"] : List Str).Nodup; decide) rfl rfl (fun a oe cls d pn hz hf => pss_one (ps_ret (pe_tup (pa_cons pe_str (pa_cons (pe_callB (call_reprX K hcm (Nat.lt_of_le_of_lt (Nat.add_le_add_left (by decide) _) (show A.units + 3 + 200 < cLine from by have := hr.un; simp only [Around.deeper] at this; omega))) (by rfl) T.n_repr (by decide +kernel) (pa_cons (pe_xf T.xf_ParseError T.nf_ParseError hz hf (pv 2)) pa_nil)) (pa_cons (pe_callP (p := (a, oe)) (cls := cls) (d := d) (E := fun _ _ _ => False) GR (roomH_mk (hr.mono (by decide)) _) List.mem_cons_self hz hf rfl T.m__law_roots T.k__law_roots T.b__law_roots pass0 (pa_cons (pv 2) pa_nil)) pa_nil)))))) ?_
    refine .named (m := "error") ⟨rfl, by decide, .inl T.m_RampError⟩ (by show (["word", "value", "error"] : List Str).Nodup; decide) rfl rfl (fun a oe cls d pn hz hf => pss_one (ps_ret (pe_tup (pa_cons pe_str (pa_cons pe_str (pa_cons (pe_callP (p := (a, oe)) (cls := cls) (d := d) (E := fun _ _ _ => False) GR (roomH_mk (hr.mono (by decide)) _) List.mem_cons_self hz hf rfl T.m__law_roots T.k__law_roots T.b__law_roots pass0 (pa_cons (pv 2) pa_nil)) pa_nil)))))) ?_
    refine .named (m := "error") ⟨rfl, by decide, .inl T.m_InvalidNumber⟩ (by show (["word", "value", "error"] : List Str).Nodup; decide) rfl rfl (fun a oe cls d pn hz hf => pss_one (ps_ret (pe_tup (pa_cons pe_str (pa_cons (pe_callB (call_reprX K hcm (Nat.lt_of_le_of_lt (Nat.add_le_add_left (by decide) _) (show A.units + 3 + 200 < cLine from by have := hr.un; simp only [Around.deeper] at this; omega))) (by rfl) T.n_repr (by decide +kernel) (pa_cons (pe_xf T.xf_InvalidNumber T.nf_InvalidNumber hz hf (pv 2)) pa_nil)) (pa_cons (pe_callP (p := (a, oe)) (cls := cls) (d := d) (E := fun _ _ _ => False) GR (roomH_mk (hr.mono (by decide)) _) List.mem_cons_self hz hf rfl T.m__law_roots T.k__law_roots T.b__law_roots pass0 (pa_cons (pv 2) pa_nil)) pa_nil)))))) ?_
    refine .named (m := "error") ⟨rfl, by decide, .inl T.m_UnknownName⟩ (by show (["word", "value", "error"] : List Str).Nodup; decide) rfl rfl (fun a oe cls d pn hz hf => pss_one (ps_ret (pe_tup (pa_cons pe_str (pa_cons (pe_callB (call_reprX K hcm (Nat.lt_of_le_of_lt (Nat.add_le_add_left (by decide) _) (show A.units + 3 + 200 < cLine from by have := hr.un; simp only [Around.deeper] at this; omega))) (by rfl) T.n_repr (by decide +kernel) (pa_cons (pe_xf T.xf_UnknownName T.nf_UnknownName hz hf (pv 2)) pa_nil)) (pa_cons (pe_callP (p := (a, oe)) (cls := cls) (d := d) (E := fun _ _ _ => False) GR (roomH_mk (hr.mono (by decide)) _) List.mem_cons_self hz hf rfl T.m__law_roots T.k__law_roots T.b__law_roots pass0 (pa_cons (pv 2) pa_nil)) pa_nil)))))) ?_
    refine .named (m := "error") ⟨rfl, by decide, .inl T.m_NothingToUndo⟩ (by show (["word", "value", "error"] : List Str).Nodup; decide) rfl rfl (fun a oe cls d pn hz hf => pss_one (ps_ret (pe_tup (pa_cons pe_str (pa_cons (pe_callB (call_reprX K hcm (Nat.lt_of_le_of_lt (Nat.add_le_add_left (by decide) _) (show A.units + 3 + 200 < cLine from by have := hr.un; simp only [Around.deeper] at this; omega))) (by rfl) T.n_repr (by decide +kernel) (pa_cons (pe_xf T.xf_NothingToUndo T.nf_NothingToUndo hz hf (pv 2)) pa_nil)) (pa_cons (pe_callP (p := (a, oe)) (cls := cls) (d := d) (E := fun _ _ _ => False) GR (roomH_mk (hr.mono (by decide)) _) List.mem_cons_self hz hf rfl T.m__law_roots T.k__law_roots T.b__law_roots pass0 (pa_cons (pv 2) pa_nil)) pa_nil)))))) ?_
    refine .named (m := "error") ⟨rfl, by decide, .inl T.m_TooMany⟩ (by show (["word", "value", "error"] : List Str).Nodup; decide) rfl rfl (fun a oe cls d pn hz hf => pss_one (ps_ret (pe_tup (pa_cons pe_str (pa_cons (pe_callB (call_reprX K hcm (Nat.lt_of_le_of_lt (Nat.add_le_add_left (by decide) _) (show A.units + 3 + 200 < cLine from by have := hr.un; simp only [Around.deeper] at this; omega))) (by rfl) T.n_repr (by decide +kernel) (pa_cons (pe_xf T.xf_TooMany T.nf_TooMany hz hf (pv 2)) pa_nil)) (pa_cons (pe_callP (p := (a, oe)) (cls := cls) (d := d) (E := fun _ _ _ => False) GR (roomH_mk (hr.mono (by decide)) _) List.mem_cons_self hz hf rfl T.m__law_roots T.k__law_roots T.b__law_roots pass0 (pa_cons (pv 2) pa_nil)) pa_nil)))))) ?_
    refine .named (m := "error") ⟨rfl, by decide, .inl T.m_Refused⟩ (by show (["word", "value", "error"] : List Str).Nodup; decide) rfl rfl (fun a oe cls d pn hz hf => pss_one (ps_ret (pe_tup (pa_cons pe_str (pa_cons (pe_callB (call_reprX K hcm (Nat.lt_of_le_of_lt (Nat.add_le_add_left (by decide) _) (show A.units + 3 + 200 < cLine from by have := hr.un; simp only [Around.deeper] at this; omega))) (by rfl) T.n_repr (by decide +kernel) (pa_cons (pe_xf T.xf_Refused T.nf_Refused hz hf (pv 2)) pa_nil)) (pa_cons (pe_callP (p := (a, oe)) (cls := cls) (d := d) (E := fun _ _ _ => False) GR (roomH_mk (hr.mono (by decide)) _) List.mem_cons_self hz hf rfl T.m__law_roots T.k__law_roots T.b__law_roots pass0 (pa_cons (pv 2) pa_nil)) pa_nil)))))) ?_
    exact .nil
  · obtain ⟨B, as, S, ss, r, S', c, rs, ⟨w, x, rfl, hc, rfl⟩, q⟩ := h
    have g := EnvR.start (N := ["word", "value", "error"]) rs
    obtain ⟨v0, h0, r0⟩ := g.2 0 _ rfl
    obtain ⟨v1, h1, r1⟩ := g.2 1 _ rfl
    have hl : (L2.start ["word", "value", "error"] vs).length = 3 := g.1.trans rfl
    have key : ∀ e : Row, e.w = w → e ∈ rowsA T ++ rowsB T → (∀ C p, outR e x = .exc C p → ∀ d B' H', Ok K B' H' as S' → Evo B H as B' H' → Pay K B' H' d p → wMix K (fun _ _ _ _ => False) { nx := fun _ H' => Q .non H', rt := Q } (Cl T) (.ref C) d (L2.start ["word", "value", "error"] vs) H') →
        (fun D σ H => tDrop (tCallS (SpR K (gRs (rowsA T ++ rowsB T))) (WE (wMix K (fun _ _ _ _ => False) D (Cl T))) (tCons (tVar 0) (tCons (tVar 1) tNil))) D σ H) { nx := fun _ H' => Q .non H', rt := Q } (L2.start ["word", "value", "error"] vs) H := fun e he hm k =>
      ⟨v0, h0, v1, h1, B, as, S', [.d (.str (Str.ofString w)), .d x], outR e x, S', c, .cons r0 (.cons r1 .nil), ⟨e, x, by rw [he], hm, rfl, rfl⟩, (fun _ z => nomatch z), k⟩
    cases hc with
    | pl hw =>
      simp only [List.mem_cons, List.not_mem_nil, or_false] at hw
      rcases hw with rfl | rfl | rfl | rfl | rfl | rfl | rfl | rfl | rfl
      · exact key ⟨"row", T.a_InvalidRow, none⟩ rfl (by simp [rowsA, rowsB]) fun C p z d B2 H2 c2 e2 pa => by
          cases z
          exact mix_here (pre := (Cl T).take 0) (c := (.ref T.a_InvalidRow, some 2, sPl T "row")) (post := (Cl T).drop 1) (ems_all rfl T.em_InvalidRow) T.es_InvalidRow fun a ha => pl_run T c2 hl T.xk_InvalidRow T.rt_InvalidRow pa fun v B3 H3 c3 e3 r3 => q v B3 H3 c3 (e2.trans e3) r3
      · exact key ⟨"lot", T.a_InvalidLot, none⟩ rfl (by simp [rowsA, rowsB]) fun C p z d B2 H2 c2 e2 pa => by
          cases z
          exact mix_here (pre := (Cl T).take 1) (c := (.ref T.a_InvalidLot, some 2, sPl T "lot")) (post := (Cl T).drop 2) (ems_all rfl T.em_InvalidLot) T.es_InvalidLot fun a ha => pl_run T c2 hl T.xk_InvalidLot T.rt_InvalidLot pa fun v B3 H3 c3 e3 r3 => q v B3 H3 c3 (e2.trans e3) r3
      · exact key ⟨"reading", T.a_InvalidReading, none⟩ rfl (by simp [rowsA, rowsB]) fun C p z d B2 H2 c2 e2 pa => by
          cases z
          exact mix_here (pre := (Cl T).take 2) (c := (.ref T.a_InvalidReading, some 2, sPl T "reading")) (post := (Cl T).drop 3) (ems_all rfl T.em_InvalidReading) T.es_InvalidReading fun a ha => pl_run T c2 hl T.xk_InvalidReading T.rt_InvalidReading pa fun v B3 H3 c3 e3 r3 => q v B3 H3 c3 (e2.trans e3) r3
      · exact key ⟨"network", T.a_InvalidNetwork, none⟩ rfl (by simp [rowsA, rowsB]) fun C p z d B2 H2 c2 e2 pa => by
          cases z
          exact mix_here (pre := (Cl T).take 3) (c := (.ref T.a_InvalidNetwork, some 2, sPl T "network")) (post := (Cl T).drop 4) (ems_all rfl T.em_InvalidNetwork) T.es_InvalidNetwork fun a ha => pl_run T c2 hl T.xk_InvalidNetwork T.rt_InvalidNetwork pa fun v B3 H3 c3 e3 r3 => q v B3 H3 c3 (e2.trans e3) r3
      · exact key ⟨"growth", T.a_InvalidGrowth, none⟩ rfl (by simp [rowsA, rowsB]) fun C p z d B2 H2 c2 e2 pa => by
          cases z
          exact mix_here (pre := (Cl T).take 4) (c := (.ref T.a_InvalidGrowth, some 2, sPl T "growth")) (post := (Cl T).drop 5) (ems_all rfl T.em_InvalidGrowth) T.es_InvalidGrowth fun a ha => pl_run T c2 hl T.xk_InvalidGrowth T.rt_InvalidGrowth pa fun v B3 H3 c3 e3 r3 => q v B3 H3 c3 (e2.trans e3) r3
      · exact key ⟨"operation", T.a_InvalidOperation, none⟩ rfl (by simp [rowsA, rowsB]) fun C p z d B2 H2 c2 e2 pa => by
          cases z
          exact mix_here (pre := (Cl T).take 5) (c := (.ref T.a_InvalidOperation, some 2, sPl T "operation")) (post := (Cl T).drop 6) (ems_all rfl T.em_InvalidOperation) T.es_InvalidOperation fun a ha => pl_run T c2 hl T.xk_InvalidOperation T.rt_InvalidOperation pa fun v B3 H3 c3 e3 r3 => q v B3 H3 c3 (e2.trans e3) r3
      · exact key ⟨"text", T.a_InvalidText, none⟩ rfl (by simp [rowsA, rowsB]) fun C p z d B2 H2 c2 e2 pa => by
          cases z
          exact mix_here (pre := (Cl T).take 6) (c := (.ref T.a_InvalidText, some 2, sPl T "text")) (post := (Cl T).drop 7) (ems_all rfl T.em_InvalidText) T.es_InvalidText fun a ha => pl_run T c2 hl T.xk_InvalidText T.rt_InvalidText pa fun v B3 H3 c3 e3 r3 => q v B3 H3 c3 (e2.trans e3) r3
      · exact key ⟨"claim", T.a_InvalidClaim, none⟩ rfl (by simp [rowsA, rowsB]) fun C p z d B2 H2 c2 e2 pa => by
          cases z
          exact mix_here (pre := (Cl T).take 7) (c := (.ref T.a_InvalidClaim, some 2, sPl T "claim")) (post := (Cl T).drop 8) (ems_all rfl T.em_InvalidClaim) T.es_InvalidClaim fun a ha => pl_run T c2 hl T.xk_InvalidClaim T.rt_InvalidClaim pa fun v B3 H3 c3 e3 r3 => q v B3 H3 c3 (e2.trans e3) r3
      · exact key ⟨"ramp", T.a_RampError, none⟩ rfl (by simp [rowsA, rowsB]) fun C p z d B2 H2 c2 e2 pa => by
          cases z
          exact mix_here (pre := (Cl T).take 9) (c := (.ref T.a_RampError, some 2, sPl T "ramp")) (post := (Cl T).drop 10) (ems_all rfl T.em_RampError) T.es_RampError fun a ha => pl_run T c2 hl T.xk_RampError T.rt_RampError pa fun v B3 H3 c3 e3 r3 => q v B3 H3 c3 (e2.trans e3) r3
    | kp hw hx =>
      simp only [List.mem_cons, List.not_mem_nil, or_false] at hw
      rcases hw with rfl | rfl | rfl | rfl | rfl | rfl
      · exact key ⟨"parse", T.a_ParseError, some "spot"⟩ rfl (by simp [rowsA, rowsB]) fun C p z d B2 H2 c2 e2 pa => by
          cases z
          exact mix_here (pre := (Cl T).take 8) (c := (.ref T.a_ParseError, some 2, sKp T "parse" T.a_ParseError "spot")) (post := (Cl T).drop 9) (ems_all rfl T.em_ParseError) T.es_ParseError fun a ha => kp_run T c2 hl T.xk_ParseError T.rt_ParseError hx pa fun v B3 H3 c3 e3 r3 => q v B3 H3 c3 (e2.trans e3) r3
      · exact key ⟨"number", T.a_InvalidNumber, some "given"⟩ rfl (by simp [rowsA, rowsB]) fun C p z d B2 H2 c2 e2 pa => by
          cases z
          exact mix_here (pre := (Cl T).take 10) (c := (.ref T.a_InvalidNumber, some 2, sKp T "number" T.a_InvalidNumber "given")) (post := (Cl T).drop 11) (ems_all rfl T.em_InvalidNumber) T.es_InvalidNumber fun a ha => kp_run T c2 hl T.xk_InvalidNumber T.rt_InvalidNumber hx pa fun v B3 H3 c3 e3 r3 => q v B3 H3 c3 (e2.trans e3) r3
      · exact key ⟨"unknown", T.a_UnknownName, some "wanted"⟩ rfl (by simp [rowsA, rowsB]) fun C p z d B2 H2 c2 e2 pa => by
          cases z
          exact mix_here (pre := (Cl T).take 11) (c := (.ref T.a_UnknownName, some 2, sKp T "unknown" T.a_UnknownName "wanted")) (post := (Cl T).drop 12) (ems_all rfl T.em_UnknownName) T.es_UnknownName fun a ha => kp_run T c2 hl T.xk_UnknownName T.rt_UnknownName hx pa fun v B3 H3 c3 e3 r3 => q v B3 H3 c3 (e2.trans e3) r3
      · exact key ⟨"many", T.a_TooMany, some "limit"⟩ rfl (by simp [rowsA, rowsB]) fun C p z d B2 H2 c2 e2 pa => by
          cases z
          exact mix_here (pre := (Cl T).take 13) (c := (.ref T.a_TooMany, some 2, sKp T "many" T.a_TooMany "limit")) (post := (Cl T).drop 14) (ems_all rfl T.em_TooMany) T.es_TooMany fun a ha => kp_run T c2 hl T.xk_TooMany T.rt_TooMany hx pa fun v B3 H3 c3 e3 r3 => q v B3 H3 c3 (e2.trans e3) r3
      · exact key ⟨"undo", T.a_NothingToUndo, some "done"⟩ rfl (by simp [rowsA, rowsB]) fun C p z d B2 H2 c2 e2 pa => by
          cases z
          exact mix_here (pre := (Cl T).take 12) (c := (.ref T.a_NothingToUndo, some 2, sKp T "undo" T.a_NothingToUndo "done")) (post := (Cl T).drop 13) (ems_all rfl T.em_NothingToUndo) T.es_NothingToUndo fun a ha => kp_run T c2 hl T.xk_NothingToUndo T.rt_NothingToUndo hx pa fun v B3 H3 c3 e3 r3 => q v B3 H3 c3 (e2.trans e3) r3
      · exact key ⟨"refused", T.a_Refused, some "reason"⟩ rfl (by simp [rowsA, rowsB]) fun C p z d B2 H2 c2 e2 pa => by
          cases z
          exact mix_here (pre := (Cl T).take 14) (c := (.ref T.a_Refused, some 2, sKp T "refused" T.a_Refused "reason")) (post := (Cl T).drop 15) (ems_all rfl T.em_Refused) T.es_Refused fun a ha => kp_run T c2 hl T.xk_Refused T.rt_Refused hx pa fun v B3 H3 c3 e3 r3 => q v B3 H3 c3 (e2.trans e3) r3
end
end N00

set_option Elab.async false
set_option linter.all false
set_option maxRecDepth 100000
set_option maxHeartbeats 4000000
namespace N00
open PySem PySem.Spec PyProof.Rows L2 RW

abbrev T10 : Int := 10 ^ (60 : Int).toNat
def WP : List String := ["row", "lot", "reading", "network", "growth", "operation", "text", "claim", "ramp"]
def WK : List String := ["parse", "number", "unknown", "many", "refused", "undo"]
theorem wk_mem {w : String} (h : w ∈ WK) : w ∈ ["parse", "number", "unknown", "many", "undo", "refused"] := by
  simp only [WK, List.mem_cons, List.not_mem_nil, or_false] at h
  rcases h with rfl | rfl | rfl | rfl | rfl | rfl <;> simp
/-- the values that are drawn -/
def VM : List Dat := [.non, .int 0, .str "a", .tup [.int 1, .str "b"], .lst [.int 3], .dd, .bl true, .int (0 - T10), .tup [.str "zero"]]
def SM : List Dat := [.str "", .str "a", .str "said"]
theorem pl1 {d : Dat} (h : Pl 1 d) : Pl 2 d := by
  cases h with
  | non => exact .non
  | bl b => exact .bl b
  | int i => exact .int i
  | str h => exact .str h
  | tup h => exact .tup fun d hd => (by
      have := h d hd
      cases this with
      | non => exact .non
      | bl b => exact .bl b
      | int i => exact .int i
      | str h => exact .str h)
  | lst h => exact .lst fun d hd => (by
      have := h d hd
      cases this with
      | non => exact .non
      | bl b => exact .bl b
      | int i => exact .int i
      | str h => exact .str h)
theorem vm_ok : ∀ x ∈ VM, ShX x := by
  intro x hx
  simp only [VM, List.mem_cons, List.not_mem_nil, or_false] at hx
  rcases hx with rfl | rfl | rfl | rfl | rfl | rfl | rfl | rfl | rfl
  · exact ⟨.inl .non, by decide +kernel, by decide +kernel, by decide +kernel⟩
  · exact ⟨.inl (.int _), by decide +kernel, by decide +kernel, by decide +kernel⟩
  · exact ⟨.inl (.str (by decide +kernel)), by decide +kernel, by decide +kernel, by decide +kernel⟩
  · exact ⟨.inl (.tup fun d hd => by
      simp only [List.mem_cons, List.not_mem_nil, or_false] at hd
      rcases hd with rfl | rfl
      · exact .int _
      · exact .str (by decide +kernel)), by decide +kernel, by decide +kernel, by decide +kernel⟩
  · exact ⟨.inl (.lst fun d hd => by
      simp only [List.mem_cons, List.not_mem_nil, or_false] at hd
      rcases hd with rfl
      exact .int _), by decide +kernel, by decide +kernel, by decide +kernel⟩
  · exact ⟨.inr rfl, by decide +kernel, by decide +kernel, by decide +kernel⟩
  · exact ⟨.inl (.bl _), by decide +kernel, by decide +kernel, by decide +kernel⟩
  · exact ⟨.inl (.int _), by decide +kernel, by decide +kernel, by decide +kernel⟩
  · exact ⟨.inl (.tup fun d hd => by
      simp only [List.mem_cons, List.not_mem_nil, or_false] at hd
      rcases hd with rfl
      exact .str (by decide +kernel)), by decide +kernel, by decide +kernel, by decide +kernel⟩
theorem res_pl {w : String} {t : Str} {bs : List Bool} (hw : (PyData.str (Str.ofString w)).canLay0 = true) (ht : (PyData.str t).canLay0 = true) : Pl 2 (resD (Str.ofString w) t bs) := .tup fun d hd => by
  simp only [List.mem_cons, List.not_mem_nil, or_false] at hd
  rcases hd with rfl | rfl | rfl
  · exact .str hw
  · exact .str ht
  · exact .lst fun d hd => by
      obtain ⟨b, _, rfl⟩ := List.mem_map.mp hd
      exact .bl b
theorem words_lay : ∀ w ∈ WP ++ WK, (PyData.str (Str.ofString w)).canLay0 = true := by decide +kernel
def rootsI (w : String) : List Int := (rootsN w).map Int.ofNat
/-- as the comprehension makes them -/
theorem roots_row (w : String) : ((List.range 7).map fun (i : Nat) => Dat.bl (decide ((0 + (i : Int)) ∈ rootsI w))) = (rootsE w).map Dat.bl := by
  unfold rootsE
  rw [List.map_map]
  refine List.map_congr_left fun i _ => congrArg Dat.bl (decide_eq_decide.mpr ?_)
  rw [Int.zero_add]
  unfold rootsI
  constructor
  · intro h
    obtain ⟨j, hj, e⟩ := List.mem_map.mp h
    have : j = i := Int.ofNat.inj e
    rw [← this]; exact hj
  · intro h
    exact List.mem_map.mpr ⟨i, h, rfl⟩
theorem wp_roots : ∀ w ∈ WP, rootsN w = [0, 6] := by decide +kernel
def KD6 : List (Str × Dat) := WK.map fun w => (Str.ofString w, Dat.tup ((rootsI w).map Dat.int))
theorem kd6_keys : KD6.map (·.1) = WK.map Str.ofString := by unfold KD6; rw [List.map_map]; rfl
theorem kd6_val : ∀ w ∈ WK, valD (KD6.map fun k => ((Sum.inr k.1 : L2.Key), k.2)) (.inr (Str.ofString w)) = some (.tup ((rootsI w).map Dat.int)) := by
  intro w hw
  simp only [WK, List.mem_cons, List.not_mem_nil, or_false] at hw
  rcases hw with rfl | rfl | rfl | rfl | rfl | rfl <;> rfl
section
variable {K : PySem.W.Frag} {env : Env1} {S S1 : List Dat} {tA : TA} {k : Nat} {v : Vt} {E : XK}
theorem ev_big : Ev K (tOp (rI CPowW fun i j => V.int (i ^ j.toNat)) (tC (.int 10)) (tC (.int 60))) env S (.d (.int T10)) S := ev_op ev_int ev_int (o_powW ⟨by decide, by decide⟩)
theorem ev_dd : Ev K tDNewT env S (.d .dd) S := fun B H as σ c g Q q => fun p hp => q (.ref p) (upd B p (.dT [])) _ (c.new hp) (Evo.new c hp) (.dd upd_same)
def gRight (ss : List Sl) (S : List Dat) (post : Dat → List Dat → Prop) : Prop := ∃ (k : Nat) (v : Vt), ss = [.c k] ∧ S[k]? = some (vatD v) ∧ post = fun r T => r = .bl true ∧ ∃ v', T = S.set k (vatD v')
theorem sp_env {n : Nat} {t : TS} {env' : Env1} {P : Post} (e : env = env') (h : SP K n t env' S P) : SP K n t env S P := e ▸ h
theorem get_app {S : List Dat} {v : Dat} : (S ++ [v])[S.length]? = some v := by simp
theorem take_app {S : List Dat} {v : Dat} : (S ++ [v]).take S.length = S := List.take_left ..
/-- what is drawn from a written list -/
theorem eve_pick {ds : List Dat} (hv : ∃ v, S1 = S.set k (vatD v)) (hk : k < S.length) (h : EvA K tA env S1 [.c k, .d (.lst ds)] S1) (hne : ds ≠ []) (hl : ds.length ≤ 100) :
    EvE K (tCall (SpE K gPick) [] E tA) env S1 (fun r T => ∃ x v', r = .d x ∧ x ∈ ds ∧ T = S.set k (vatD v')) := by
  obtain ⟨v, rfl⟩ := hv
  exact eve_callA h ⟨k, v, .lst ds, ds, rfl, .inl rfl, List.getElem?_set_self hk, hne, by omega, rfl⟩ fun r T ⟨h1, v', h2⟩ => ⟨r, v', rfl, h1, by rw [h2, List.set_set]⟩
end
section
variable {P : Program} {w : World} {K : PySem.W.Frag} {mg : Str → Option Value} {base : Heap}

theorem ok__law_right (T : Txt K mg) : FnG P w K mg base CX0 6 T.a__law_right T.d__law_right ["pail"] (SpE K gRight) := by
  have G__law_caught := ok__law_caught (P := P) (w := w) (base := base) T
  have b__law_caught := T.b__law_caught
  have G__law_any_of := ok__law_any_of (P := P) (w := w) (base := base) T
  have b__law_any_of := T.b__law_any_of
  refine Fun.okG T.F__law_right sc__law_right (spe_len (k := 1) fun ss S post hg => ?_) (fun cdv A outer s H vs Q E hcm hr h => ⟨_, (pss_cons (ps_for PassesOwn.never rfl (pi_seqK K (pe_tup (pa_cons pe_str (pa_cons pe_str (pa_cons pe_str (pa_cons pe_str (pa_cons pe_str (pa_cons pe_str (pa_cons pe_str (pa_cons pe_str (pa_cons pe_str pa_nil))))))))))) (pg_name (i := 1) sc__law_right.nd rfl (by first | exact Or.inl rfl | exact Or.inr rfl)) (pss_cons (ps_set (i := 2) sc__law_right.nd rfl (by first | exact Or.inl rfl | exact Or.inr rfl) (pe_tup (pa_cons (pv 1) (pa_cons pe_str (pa_cons (pe_lc (own := [("place", 3)]) rfl sc__law_right.nd (pi_range1 (by rfl) T.n_range (pa_cons pe_int pa_nil)) (blkOk_by (own := [("place", 3)]) (N := ["pail", "word", "due", "place", "value", "roots"]) (sc := (defScope s__law_right)) (by decide +kernel)) (fun _ _ _ _ _ => (pg_name (i := 3) sc__law_right.nd rfl (by first | exact Or.inl rfl | exact Or.inr rfl))) (fun _ _ _ _ _ => pts_nil) (fun _ _ _ _ _ => (pe_cmpR (op_in_seqK K) (pv 3) (pe_tup (pa_cons pe_int (pa_cons pe_int pa_nil))) rfl))) pa_nil))))) (pss_one (ps_if (pt_cmpR (op_neDK K hr.units) (pe_callG G__law_caught hcm (hr.mono (by decide)) rfl T.m__law_caught T.k__law_caught b__law_caught pass0 (pa_cons (pv 1) (pa_cons (pe_call G__law_any_of (hr.mono (by decide)) rfl T.m__law_any_of T.k__law_any_of b__law_any_of .nil pass0 (pa_cons (pv 0) (pa_cons (pe_lst (pa_cons pe_str (pa_cons pe_str (pa_cons pe_str pa_nil)))) pa_nil))) pa_nil))) (pv 2) (nomark _)) (pss_one (ps_ret pe_bl)) pss_nil)))) (pss_cons (ps_set (i := 4) sc__law_right.nd rfl (by first | exact Or.inl rfl | exact Or.inr rfl) (pe_call G__law_any_of (hr.mono (by decide)) rfl T.m__law_any_of T.k__law_any_of b__law_any_of .nil pass0 (pa_cons (pv 0) (pa_cons (pe_lst (pa_cons pe_non (pa_cons pe_int (pa_cons pe_str (pa_cons (pe_tup (pa_cons pe_int (pa_cons pe_str pa_nil))) (pa_cons (pe_lst (pa_cons pe_int pa_nil)) (pa_cons pe_dnewT (pa_cons pe_bl (pa_cons (pe_op op_sub pe_int (pe_op op_powW pe_int pe_int)) (pa_cons (pe_tup (pa_cons pe_str pa_nil)) pa_nil)))))))))) pa_nil)))) (pss_cons (ps_set (i := 5) sc__law_right.nd rfl (by first | exact Or.inl rfl | exact Or.inr rfl) (pe_disp (pps_cons pe_str (pe_tup (pa_cons pe_int (pa_cons pe_int pa_nil))) (pps_cons pe_str (pe_tup (pa_cons pe_int (pa_cons pe_int pa_nil))) (pps_cons pe_str (pe_tup (pa_cons pe_int (pa_cons pe_int pa_nil))) (pps_cons pe_str (pe_tup (pa_cons pe_int (pa_cons pe_int pa_nil))) (pps_cons pe_str (pe_tup (pa_cons pe_int pa_nil)) (pps_cons pe_str (pe_tup (pa_cons pe_int pa_nil)) pps_nil)))))) rfl rfl (by decide) (by decide))) (pss_cons (ps_for PassesOwn.never rfl (pi_seqK K (pe_callB (call_srtK rfl) (by rfl) T.n_sorted (by decide +kernel) (pa_cons (pv 5) pa_nil))) (pg_name (i := 1) sc__law_right.nd rfl (by first | exact Or.inl rfl | exact Or.inr rfl)) (pss_one (ps_if (pt_cmpR (op_neDK K hr.units) (pe_callG G__law_caught hcm (hr.mono (by decide)) rfl T.m__law_caught T.k__law_caught b__law_caught pass0 (pa_cons (pv 1) (pa_cons (pv 4) pa_nil))) (pe_tup (pa_cons (pv 1) (pa_cons (pe_callB (call_reprX K hcm hr.units) (by rfl) T.n_repr (by decide +kernel) (pa_cons (pv 4) pa_nil)) (pa_cons (pe_lc (own := [("place", 3)]) rfl sc__law_right.nd (pi_range1 (by rfl) T.n_range (pa_cons pe_int pa_nil)) (blkOk_by (own := [("place", 3)]) (N := ["pail", "word", "due", "place", "value", "roots"]) (sc := (defScope s__law_right)) (by decide +kernel)) (fun _ _ _ _ _ => (pg_name (i := 3) sc__law_right.nd rfl (by first | exact Or.inl rfl | exact Or.inr rfl))) (fun _ _ _ _ _ => pts_nil) (fun _ _ _ _ _ => (pe_cmpR (op_in_seqK K) (pv 3) (pe_dget (Nat.lt_of_le_of_lt (Nat.add_le_add_left (by decide) _) hr.units) (pv 5) (pv 1) (fun _ _ => rfl)) rfl))) pa_nil)))) (nomark _)) (pss_one (ps_ret pe_bl)) pss_nil))) (pss_one (ps_ret pe_bl)))))), sp_bodyE h fun ss S post hg => ?_⟩)
  · obtain ⟨k, v, rfl, _⟩ := hg; rfl
  · obtain ⟨k, v, rfl, hk, rfl⟩ := hg
    have hkl : k < S.length := (List.getElem?_eq_some_iff.mp hk).1
    refine sp_seq (P' := { nx := fun env' S2 => (∃ v', S2 = S.set k (vatD v')) ∧ ∃ o1 o2, env' = [some (.c k), o1, o2, none, none, none] })
      (sp_forA (xs := WP) (g := fun w => Dat.str (Str.ofString w)) (it_tup (ev_tup (ds := WP.map fun w => Dat.str (Str.ofString w)) (ea_cons ev_str (ea_cons ev_str (ea_cons ev_str (ea_cons ev_str (ea_cons ev_str (ea_cons ev_str (ea_cons ev_str (ea_cons ev_str (ea_cons ev_str ea_nil))))))))) (szd (Nat.le_of_ble_eq_true rfl)))) (fun i env' S2 => (∃ v', S2 = S.set k (vatD v')) ∧ ∃ o1 o2, env' = [some (.c k), o1, o2, none, none, none]) ⟨⟨v, (set_id hk).symm⟩, none, none, rfl⟩ (fun _ _ _ _ _ _ _ _ _ => trivial) ?_ fun _ _ h => h) ?_
    · rintro i w env' S2 ha ⟨hv1, o1, o2, rfl⟩
      have hw : w ∈ WP := List.mem_of_getElem? ha
      refine ⟨[1], fun env => env.set 1 (some (.d (.str (Str.ofString w)))), tg_name, ?_⟩
      have hres : Cau w .non (resD (Str.ofString w) (Str.ofString "") (rootsE w)) := .pl hw
      have hpl : Pl 2 (resD (Str.ofString w) (Str.ofString "") (rootsE w)) := res_pl (words_lay w (List.mem_append_left _ hw)) (by decide +kernel)
      refine sp_set (S1 := S2) (x := .d (resD (Str.ofString w) (Str.ofString "") (rootsE w))) (Ev.to (ev_tup (ds := [.str (Str.ofString w), .str (Str.ofString ""), .lst ((List.range 7).map fun (i : Nat) => Dat.bl (decide ((0 + (i : Int)) ∈ rootsI w)))]) (ea_cons (ev_var rfl) (ea_cons ev_str (ea_cons (EvN.ev (en_mapA (xs := List.range 7) (g := fun i => Dat.int (0 + (i : Nat))) (is := [3]) (fun (i : Nat) => Dat.bl (decide ((0 + (i : Int)) ∈ rootsI w))) (it_rangeN (m := 7) (ea_cons ev_int ea_nil) (by decide)) (by decide) (fun _ _ => trivial) (by decide) (fun i env => env.set 3 (some (.d (.int (0 + (i : Nat)))))) fun i _ => ⟨tg_name, ?_⟩)) ea_nil))) (szd (Nat.le_of_ble_eq_true rfl))) ?_) ?_
      · rw [show rootsI w = [0, 6] by unfold rootsI; rw [wp_roots w hw]; rfl]
        exact ev_op (ev_var rfl) (ev_tup (ds := [.int 0, .int 6]) (ea_cons ev_int (ea_cons ev_int ea_nil)) (szd (Nat.le_of_ble_eq_true rfl))) (o_inI (ns := [0, 6]) .tup)
      · rw [roots_row]; rfl
      · refine sp_ifE (pT := fun b T => b = false ∧ ∃ v', T = S.set k (vatD v')) (ete_test (eve_opL (p1 := fun r T => r = .d (resD (Str.ofString w) (Str.ofString "") (rootsE w)) ∧ ∃ v', T = S.set k (vatD v')) (eve_callD (pA := fun ss T => (∃ x, ss = [.d (.str (Str.ofString w)), .d x]) ∧ ∃ v', T = S.set k (vatD v')) (eae_cons1 (ev_var rfl) (eae_cons (eve_pick hv1 hkl (ea_cons (ev_var rfl) (ea_cons (EvN.ev (en_lst (ds := SM) (ea_cons ev_str (ea_cons ev_str (ea_cons ev_str ea_nil))) (szd (Nat.le_of_ble_eq_true rfl)))) ea_nil)) (by simp [SM]) (by decide)) fun x S1 ⟨d, v', e1, _, e2⟩ => eae_nil ⟨⟨d, by rw [e1]⟩, v', e2⟩)) fun ss T ⟨⟨x, e1⟩, hv'⟩ => ⟨_, T, ⟨w, x, e1, .pl hw, rfl⟩, rfl, hv'⟩) fun x S1 ⟨e1, hv'⟩ => ⟨.d (resD (Str.ofString w) (Str.ofString "") (rootsE w)), .bl (!eqD (resD (Str.ofString w) (Str.ofString "") (rootsE w)) (resD (Str.ofString w) (Str.ofString "") (rootsE w))), ev_var rfl, by rw [e1]; exact op2_neD (plS_d hpl) (plS_d hpl) (by decide) (by decide), _, rfl, by rw [eqD_refl hpl]; rfl, hv'⟩)) (fun S1 h => by cases h.1) fun S1 h => sp_next ⟨h.2, _, _, rfl⟩
    · rintro env' S2 ⟨hv1, o1, o2, rfl⟩
      refine sp_setE (eve_pick hv1 hkl (ds := VM) (ea_cons (ev_var rfl) (ea_cons (EvN.ev (en_lst (ds := VM) (ea_cons ev_non (ea_cons ev_int (ea_cons ev_str (ea_cons (ev_tup (ds := [.int 1, .str "b"]) (ea_cons ev_int (ea_cons ev_str ea_nil)) (szd (Nat.le_of_ble_eq_true rfl))) (ea_cons (EvN.ev (en_lst (ds := [.int 3]) (ea_cons ev_int ea_nil) (szd (Nat.le_of_ble_eq_true rfl)))) (ea_cons ev_dd (ea_cons ev_bl (ea_cons (ev_op ev_int ev_big o_sub) (ea_cons (ev_tup (ds := [.str "zero"]) (ea_cons ev_str ea_nil) (szd (Nat.le_of_ble_eq_true rfl))) ea_nil))))))))) (szd (Nat.le_of_ble_eq_true rfl)))) ea_nil)) (by simp [VM]) (by decide)) fun r S3 ⟨x, v', e1, hx, e2⟩ => ?_
      subst e1 e2
      have sx := vm_ok x hx
      have eT : ∀ {a b : Int}, Ev K (tTup (tCons (tC (.int a)) (tCons (tC (.int b)) tNil))) [some (.c k), o1, o2, none, some (.d x), none] (S.set k (vatD v')) (.d (.tup [.int a, .int b])) (S.set k (vatD v')) := fun {a b} => ev_tup (ds := [.int a, .int b]) (ea_cons ev_int (ea_cons ev_int ea_nil)) (szd (Nat.le_of_ble_eq_true rfl))
      have eU : ∀ {a : Int}, Ev K (tTup (tCons (tC (.int a)) tNil)) [some (.c k), o1, o2, none, some (.d x), none] (S.set k (vatD v')) (.d (.tup [.int a])) (S.set k (vatD v')) := fun {a} => ev_tup (ds := [.int a]) (ea_cons ev_int ea_nil) (szd (Nat.le_of_ble_eq_true rfl))
      refine sp_env (env' := [some (.c k), o1, o2, none, some (.d x), none]) rfl ?_
      refine sp_setDsp (kds := KD6) (eps_cons eT (eps_cons eT (eps_cons eT (eps_cons eT (eps_cons eU (eps_cons eU eps_nil)))))) (by rw [kd6_keys]; decide +kernel) (by decide) ?_
      generalize hS : S.set k (vatD v') = S3
      have hS3 : S3.length = S.length := by rw [← hS]; exact List.length_set ..
      have hgt : ∀ {T : List Dat}, T = S3 ++ [dspD KD6] → T[S3.length]? = some (dspD KD6) := fun {T} e => by rw [e]; exact get_app
      refine sp_env (env' := [some (.c k), o1, o2, none, some (.d x), some (.c S3.length)]) (by rw [← hS]; rfl) ?_
      refine sp_seq (P' := { nx := fun env' S2 => S2 = S3 ++ [dspD KD6] })
        (sp_forE (pI := fun ds G T => G = G0 ∧ (∃ ys : List Str, ys.Perm (KD6.map (·.1)) ∧ ds = ys.map Dat.str) ∧ T = S3 ++ [dspD KD6]) (ite_seq (eve_N ((ene_srtK (kds := KD6) (ev_var rfl) get_app (by decide)).imp fun ds T ⟨ys, h1, h2, h3⟩ => ⟨ds, .inl rfl, rfl, ⟨ys, h1, h2⟩, h3⟩))) ?_) ?_
      · rintro ds G S1 ⟨rfl, ⟨ys, hp, rfl⟩, rfl⟩
        refine ⟨fun i env' T => T = S3 ++ [dspD KD6] ∧ ∃ o1 o2, env' = [some (.c k), o1, o2, none, some (.d x), some (.c S3.length)], ⟨rfl, _, _, rfl⟩, fun _ _ _ _ _ _ _ _ _ => trivial, ?_, fun _ _ h => h.1⟩
        rintro i d env' T hd ⟨rfl, p1, p2, rfl⟩
        obtain ⟨s, hs, rfl⟩ := List.mem_map.mp (List.mem_of_getElem? hd)
        have hs2 := hp.mem_iff.mp hs
        rw [kd6_keys] at hs2
        obtain ⟨w, hw, rfl⟩ := List.mem_map.mp hs2
        refine ⟨[1], fun env => env.set 1 (some (.d (.str (Str.ofString w)))), tg_name, ?_⟩
        have hpl : Pl 2 (resD (Str.ofString w) (reprD x) (rootsE w)) := res_pl (words_lay w (List.mem_append_right _ hw)) sx.lay
        refine sp_if (S1 := S3 ++ [dspD KD6]) (b := false) (et_test (Ev.to (ev_op (ev_call (d := resD (Str.ofString w) (reprD x) (rootsE w)) (ea_cons (ev_var rfl) (ea_cons (ev_var rfl) ea_nil)) ⟨w, x, rfl, .kp (wk_mem hw) sx, rfl⟩) (Ev.to (ev_tup (ds := [.str (Str.ofString w), .str (reprD x), .lst ((List.range 7).map fun (i : Nat) => Dat.bl (decide ((0 + (i : Int)) ∈ rootsI w)))]) (ea_cons (ev_var rfl) (ea_cons (ev_cb (ea_cons (ev_var rfl) ea_nil) (cd_reprX sx)) (ea_cons (EvN.ev (en_mapA (xs := List.range 7) (g := fun i => Dat.int (0 + (i : Nat))) (is := [3]) (fun (i : Nat) => Dat.bl (decide ((0 + (i : Int)) ∈ rootsI w))) (it_rangeN (m := 7) (ea_cons ev_int ea_nil) (by decide)) (by decide) (fun _ _ => trivial) (by decide) (fun i env => env.set 3 (some (.d (.int (0 + (i : Nat)))))) fun i _ => ⟨tg_name, ev_op (ev_var rfl) (ev_dgetS (ev_var rfl) (ev_var rfl) get_app (kd6_val w hw)) (o_inI (ns := rootsI w) .tup)⟩)) ea_nil))) (szd (Nat.le_of_ble_eq_true rfl))) (r' := .d (resD (Str.ofString w) (reprD x) (rootsE w))) (by rw [roots_row]; rfl)) (op2_neD (plS_d hpl) (plS_d hpl) (by decide) (by decide))) (congrArg (fun b => Sl.d (Dat.bl (!b))) (eqD_refl hpl)))) (fun h => by cases h) fun _ => sp_next ⟨rfl, _, _, rfl⟩
      · rintro env' S2 rfl
        exact sp_ret (d := .bl true) ev_bl ⟨rfl, v', by rw [← hS3]; rw [take_app]; exact hS.symm⟩
end
end N00

set_option Elab.async false
set_option linter.all false
set_option maxRecDepth 100000
set_option maxHeartbeats 4000000
namespace N00
open PySem PySem.Spec PyProof.Rows L2 RW

theorem set_app {S : List Dat} {v w : Dat} : (S ++ [v]).set S.length w = S ++ [w] := by simp
section
variable {K : PySem.W.Frag} {mg : Str → Option Value}
def gLaw (T : Txt K mg) (ss : List Sl) (S : List Dat) (r : Dat) (S' : List Dat) : Prop := ∃ (ns : List Int), ss = [.d (.scr ns)] ∧ ns.length ≤ 63 ∧ r = .bl true ∧ S' = S
theorem zero_ok : ShX (.tup [.str "zero"]) := vm_ok _ (by simp [VM])
theorem true_ok : ShX (.bl true) := vm_ok _ (by simp [VM])
end
section
variable {P : Program} {w : World} {K : PySem.W.Frag} {mg : Str → Option Value} {base : Heap}

theorem ok_law (T : Txt K mg) : FnG P w K mg base CX0 7 T.a_law T.d_law ["script"] (SpD K (gLaw T)) := by
  have G__law_pail := ok__law_pail (P := P) (w := w) (base := base) T
  have b__law_pail := T.b__law_pail
  have G__law_right := ok__law_right (P := P) (w := w) (base := base) T
  have b__law_right := T.b__law_right
  have G__law_caught := ok__law_caught (P := P) (w := w) (base := base) T
  have b__law_caught := T.b__law_caught
  refine Fun.okG T.F_law sc_law (spd_len (k := 1) fun ss S r S' hg => ?_) (fun cdv A outer s H vs Q E hcm hr h => ⟨_, (pss_cons (ps_for PassesOwn.never rfl (pi_range1 (by rfl) T.n_range (pa_cons (pe_callB (call_max2D rfl) (by rfl) T.n_max (by decide +kernel) (pa_cons pe_int (pa_cons (pe_callB (call_min2D rfl) (by rfl) T.n_min (by decide +kernel) (pa_cons pe_int (pa_cons (pe_callB (call_lenK K) (by rfl) T.n_len (by decide +kernel) (pa_cons (pv 0) pa_nil)) pa_nil))) pa_nil))) pa_nil)) (pg_name (i := 1) sc_law.nd rfl (by first | exact Or.inl rfl | exact Or.inr rfl)) (pss_cons (ps_set (i := 2) sc_law.nd rfl (by first | exact Or.inl rfl | exact Or.inr rfl) (pe_call G__law_pail (hr.mono (by decide)) rfl T.m__law_pail T.k__law_pail b__law_pail .nil pass0 (pa_cons (pv 0) (pa_cons (pv 1) pa_nil)))) (pss_one (ps_if (PW.pt (pw_or (pt_not (pt_truK K (pe_callG G__law_right hcm (hr.mono (by decide)) rfl T.m__law_right T.k__law_right b__law_right pass0 (pa_cons (pv 2) pa_nil)))) (pw_or1 (pt_not (pt_truK K (pe_callG G__law_right hcm (hr.mono (by decide)) rfl T.m__law_right T.k__law_right b__law_right pass0 (pa_cons (pv 2) pa_nil))))))) (pss_one (ps_ret pe_bl)) pss_nil)))) (pss_one (ps_ret (pe_and (pe_cmpR (op_eqDK K hr.units) (pe_ix (ix_seqK K) (pe_callG G__law_caught hcm (hr.mono (by decide)) rfl T.m__law_caught T.k__law_caught b__law_caught pass0 (pa_cons pe_str (pa_cons pe_bl pa_nil))) pe_int (fun _ _ => rfl)) pe_str (nomark _)) (pe_one (pe_cmpR (op_eqDK K hr.units) (pe_ix (ix_seqK K) (pe_callG G__law_caught hcm (hr.mono (by decide)) rfl T.m__law_caught T.k__law_caught b__law_caught pass0 (pa_cons pe_str (pa_cons (pe_tup (pa_cons pe_str pa_nil)) pa_nil))) pe_int (fun _ _ => rfl)) pe_str (nomark _))))))), sp_body h fun ss S r S' hg => ?_⟩)
  · obtain ⟨i, rfl, _⟩ := hg; rfl
  · obtain ⟨ns, rfl, hns, rfl, rfl⟩ := hg
    obtain ⟨c, hc⟩ : ∃ c : Nat, max 1 (min 4 (ns.length : Int)) = (c : Int) := ⟨(max 1 (min 4 (ns.length : Int))).toNat, by omega⟩
    have hc4 : c ≤ 4 := by omega
    refine sp_seq (P' := { nx := fun env' S2 => (∃ X, S2 = S' ++ X) ∧ ∃ o1 o2, env' = [some (.d (.scr ns)), o1, o2] })
      (sp_forA (xs := List.range c) (g := fun i => Dat.int (0 + (i : Nat))) (it_rangeN (m := c) (ea_cons ((ev_cb (ea_cons ev_int (ea_cons (ev_cb (ea_cons ev_int (ea_cons (ev_cb (ea_cons (ev_var rfl) ea_nil) cd_lenS) ea_nil)) cd_min2) ea_nil)) cd_max2).to (by rw [hc])) ea_nil) (by omega)) (fun i env' S2 => (∃ X, S2 = S' ++ X) ∧ ∃ o1 o2, env' = [some (.d (.scr ns)), o1, o2]) ⟨⟨[], (List.append_nil _).symm⟩, none, none, rfl⟩ (fun _ _ _ _ _ _ _ _ _ => trivial) ?_ ?_) ?_
    · rintro i a env' S2 ha ⟨⟨X, rfl⟩, o1, o2, rfl⟩
      refine ⟨[1], fun env => env.set 1 (some (.d (.int (0 + (a : Nat))))), tg_name, ?_⟩
      rw [Int.zero_add]
      refine sp_setC (S1 := S' ++ X) (ds := [.int (vatF ns a).1, .int (vatF ns a).2.1, .int (vatF ns a).2.2]) (en_call (ea_cons (ev_var rfl) (ea_cons (ev_var rfl) ea_nil)) ⟨ns, a, rfl, rfl, rfl⟩) ?_
      refine sp_ifE (pT := fun b T1 => b = false ∧ ∃ v', T1 = S' ++ X ++ [vatD v']) (ete_or (pT' := fun b T1 => b = false ∧ ∃ v', T1 = S' ++ X ++ [vatD v']) (ete_not (ete_bl (eve_callA (ea_cons (ev_var rfl) ea_nil) ⟨(S' ++ X).length, vatF ns a, rfl, get_app, rfl⟩ fun r T ⟨h1, v', h2⟩ => ⟨true, by rw [h1], rfl, v', by rw [h2]; exact set_app⟩))) (fun S1 h => ?_) fun S1 h => by cases h.1) (fun S1 h => by cases h.1) fun S1 h => ?_
      · obtain ⟨_, v', rfl⟩ := h
        exact ete_not (ete_bl (eve_callA (ea_cons (ev_var rfl) ea_nil) ⟨(S' ++ X).length, v', rfl, get_app, rfl⟩ fun r T ⟨h1, v', h2⟩ => ⟨true, by rw [h1], rfl, v', by rw [h2]; exact set_app⟩))
      · obtain ⟨_, v', rfl⟩ := h
        exact sp_next ⟨⟨X ++ [vatD v'], by rw [List.append_assoc]⟩, _, _, rfl⟩
    · rintro env' S2 ⟨hX, o1, o2, rfl⟩
      exact ⟨hX, o1, o2, rfl⟩
    · rintro env' S2 ⟨⟨X, rfl⟩, o1, o2, rfl⟩
      have pS : ∀ {s : Str}, (PyData.str s).canLay0 = true → Pl 1 (.str s) := fun h => .str h
      refine sp_ret (d := .bl true) (S1 := S' ++ X) (ev_andV (a := true) (b := true) (Ev.to (ev_op (ev_op (ev_call (d := resD (Str.ofString "number") (reprD (.bl true)) (rootsE "number")) (ea_cons ev_str (ea_cons ev_bl ea_nil)) ⟨"number", .bl true, rfl, .kp (by simp) true_ok, rfl⟩) ev_int (op2_ix (d := .str (reprD (.bl true))) .tup rfl)) ev_str (op2_eqD (m1 := 1) (m2 := 1) (plS_d (pS true_ok.lay)) (plS_d (pS (by decide +kernel))) (by decide) (by decide))) (congrArg (fun b => Sl.d (Dat.bl b)) (show eqD (.str (reprD (.bl true))) (.str (Str.ofString "True")) = true by decide +kernel))) fun _ => Ev.to (ev_op (ev_op (ev_call (d := resD (Str.ofString "refused") (reprD (.tup [.str "zero"])) (rootsE "refused")) (ea_cons ev_str (ea_cons (ev_tup (ds := [.str "zero"]) (ea_cons ev_str ea_nil) (szd (Nat.le_of_ble_eq_true rfl))) ea_nil)) ⟨"refused", .tup [.str "zero"], rfl, .kp (by simp) zero_ok, rfl⟩) ev_int (op2_ix (d := .str (reprD (.tup [.str "zero"]))) .tup rfl)) ev_str (op2_eqD (m1 := 1) (m2 := 1) (plS_d (pS zero_ok.lay)) (plS_d (pS (by decide +kernel))) (by decide) (by decide))) (congrArg (fun b => Sl.d (Dat.bl b)) (show eqD (.str (reprD (.tup [.str "zero"]))) (.str (Str.ofString "('zero',)")) = true by decide +kernel))) ⟨rfl, List.take_left⟩
end
end N00

set_option Elab.async false
set_option maxRecDepth 100000
set_option maxHeartbeats 4000000
namespace N00
open PySem PySem.Spec PyProof.Rows L2 RW
theorem all_mk {l : PySem.W.OpenLaw} {q : Program} {w : World} {K : PySem.W.Frag} {h : Heap} {mg : Str → Option Value} {fa : Addr} (X : K.In h) (G : h.Ns mainGlobals mg) (hfa : mg "law" = some (.ref fa))
    {a_InvalidRow : Addr}
    {a_InvalidLot : Addr}
    {a_InvalidReading : Addr}
    {a_InvalidNetwork : Addr}
    {a_InvalidGrowth : Addr}
    {a_InvalidOperation : Addr}
    {a_InvalidText : Addr}
    {a_InvalidClaim : Addr}
    {a_ParseError : Addr}
    {a_RampError : Addr}
    {a_InvalidNumber : Addr}
    {a_UnknownName : Addr}
    {a_NothingToUndo : Addr}
    {a_TooMany : Addr}
    {a_Refused : Addr}
    {a_ParseErroru_initu : Addr} {od_ParseErroru_initu an_ParseErroru_initu : Option Addr} {sl_ParseErroru_initu : Array (Option Value)} {oc_ParseErroru_initu kV_ParseErroru_initu dc_ParseErroru_initu pm_ParseErroru_initu cd_ParseErroru_initu ct_ParseErroru_initu : Value}
    {a_InvalidNumberu_initu : Addr} {od_InvalidNumberu_initu an_InvalidNumberu_initu : Option Addr} {sl_InvalidNumberu_initu : Array (Option Value)} {oc_InvalidNumberu_initu kV_InvalidNumberu_initu dc_InvalidNumberu_initu pm_InvalidNumberu_initu cd_InvalidNumberu_initu ct_InvalidNumberu_initu : Value}
    {a_UnknownNameu_initu : Addr} {od_UnknownNameu_initu an_UnknownNameu_initu : Option Addr} {sl_UnknownNameu_initu : Array (Option Value)} {oc_UnknownNameu_initu kV_UnknownNameu_initu dc_UnknownNameu_initu pm_UnknownNameu_initu cd_UnknownNameu_initu ct_UnknownNameu_initu : Value}
    {a_TooManyu_initu : Addr} {od_TooManyu_initu an_TooManyu_initu : Option Addr} {sl_TooManyu_initu : Array (Option Value)} {oc_TooManyu_initu kV_TooManyu_initu dc_TooManyu_initu pm_TooManyu_initu cd_TooManyu_initu ct_TooManyu_initu : Value}
    {a_NothingToUndou_initu : Addr} {od_NothingToUndou_initu an_NothingToUndou_initu : Option Addr} {sl_NothingToUndou_initu : Array (Option Value)} {oc_NothingToUndou_initu kV_NothingToUndou_initu dc_NothingToUndou_initu pm_NothingToUndou_initu cd_NothingToUndou_initu ct_NothingToUndou_initu : Value}
    {a_Refusedu_initu : Addr} {od_Refusedu_initu an_Refusedu_initu : Option Addr} {sl_Refusedu_initu : Array (Option Value)} {oc_Refusedu_initu kV_Refusedu_initu dc_Refusedu_initu pm_Refusedu_initu cd_Refusedu_initu ct_Refusedu_initu : Value}
    {a__law_pail : Addr} {od__law_pail an__law_pail : Option Addr} {sl__law_pail : Array (Option Value)} {oc__law_pail kV__law_pail dc__law_pail pm__law_pail cd__law_pail ct__law_pail : Value}
    {a__law_scooped : Addr} {od__law_scooped an__law_scooped : Option Addr} {sl__law_scooped : Array (Option Value)} {oc__law_scooped kV__law_scooped dc__law_scooped pm__law_scooped cd__law_scooped ct__law_scooped : Value}
    {a__law_any_of : Addr} {od__law_any_of an__law_any_of : Option Addr} {sl__law_any_of : Array (Option Value)} {oc__law_any_of kV__law_any_of dc__law_any_of pm__law_any_of cd__law_any_of ct__law_any_of : Value}
    {a__law_raise : Addr} {od__law_raise an__law_raise : Option Addr} {sl__law_raise : Array (Option Value)} {oc__law_raise kV__law_raise dc__law_raise pm__law_raise cd__law_raise ct__law_raise : Value}
    {a__law_raise_kept : Addr} {od__law_raise_kept an__law_raise_kept : Option Addr} {sl__law_raise_kept : Array (Option Value)} {oc__law_raise_kept kV__law_raise_kept dc__law_raise_kept pm__law_raise_kept cd__law_raise_kept ct__law_raise_kept : Value}
    {a__law_roots : Addr} {od__law_roots an__law_roots : Option Addr} {sl__law_roots : Array (Option Value)} {oc__law_roots kV__law_roots dc__law_roots pm__law_roots cd__law_roots ct__law_roots : Value}
    {a__law_caught : Addr} {od__law_caught an__law_caught : Option Addr} {sl__law_caught : Array (Option Value)} {oc__law_caught kV__law_caught dc__law_caught pm__law_caught cd__law_caught ct__law_caught : Value}
    {a__law_right : Addr} {od__law_right an__law_right : Option Addr} {sl__law_right : Array (Option Value)} {oc__law_right kV__law_right dc__law_right pm__law_right cd__law_right ct__law_right : Value}
    {a_law : Addr} {od_law an_law : Option Addr} {sl_law : Array (Option Value)} {oc_law kV_law dc_law pm_law cd_law ct_law : Value}
    (n_InvalidRow : PySem.W.nsIn K mainGlobals "InvalidRow" = some (some (.ref a_InvalidRow)))
    (n_InvalidLot : PySem.W.nsIn K mainGlobals "InvalidLot" = some (some (.ref a_InvalidLot)))
    (n_InvalidReading : PySem.W.nsIn K mainGlobals "InvalidReading" = some (some (.ref a_InvalidReading)))
    (n_InvalidNetwork : PySem.W.nsIn K mainGlobals "InvalidNetwork" = some (some (.ref a_InvalidNetwork)))
    (n_InvalidGrowth : PySem.W.nsIn K mainGlobals "InvalidGrowth" = some (some (.ref a_InvalidGrowth)))
    (n_InvalidOperation : PySem.W.nsIn K mainGlobals "InvalidOperation" = some (some (.ref a_InvalidOperation)))
    (n_InvalidText : PySem.W.nsIn K mainGlobals "InvalidText" = some (some (.ref a_InvalidText)))
    (n_InvalidClaim : PySem.W.nsIn K mainGlobals "InvalidClaim" = some (some (.ref a_InvalidClaim)))
    (n_ParseError : PySem.W.nsIn K mainGlobals "ParseError" = some (some (.ref a_ParseError)))
    (n_RampError : PySem.W.nsIn K mainGlobals "RampError" = some (some (.ref a_RampError)))
    (n_InvalidNumber : PySem.W.nsIn K mainGlobals "InvalidNumber" = some (some (.ref a_InvalidNumber)))
    (n_UnknownName : PySem.W.nsIn K mainGlobals "UnknownName" = some (some (.ref a_UnknownName)))
    (n_NothingToUndo : PySem.W.nsIn K mainGlobals "NothingToUndo" = some (some (.ref a_NothingToUndo)))
    (n_TooMany : PySem.W.nsIn K mainGlobals "TooMany" = some (some (.ref a_TooMany)))
    (n_Refused : PySem.W.nsIn K mainGlobals "Refused" = some (some (.ref a_Refused)))
    (a__ParseErroru_initu : PySem.W.findIn K (.ref a_ParseError) "__init__" = some (some (.ref a_ParseErroru_initu)))
    (i__ParseErroru_initu : PySem.W.isFn K (.ref a_ParseErroru_initu) = true)
    (l__ParseErroru_initu : K.lookup a_ParseErroru_initu = some ⟨oc_ParseErroru_initu, od_ParseErroru_initu, .func (PySem.W.fnOf "__init__" "ParseError.__init__" (defArgs s_ParseErroru_initu) (defBody s_ParseErroru_initu) (defScope s_ParseErroru_initu) .none kV_ParseErroru_initu dc_ParseErroru_initu pm_ParseErroru_initu an_ParseErroru_initu cd_ParseErroru_initu ct_ParseErroru_initu), sl_ParseErroru_initu⟩)
    (c__ParseErroru_initu : PySem.W.codeIn K cd_ParseErroru_initu "ParseError.__init__" = true)
    (k__ParseErroru_initu : PySem.W.keepIn K (.ref a_ParseErroru_initu) = true)
    (a__InvalidNumberu_initu : PySem.W.findIn K (.ref a_InvalidNumber) "__init__" = some (some (.ref a_InvalidNumberu_initu)))
    (i__InvalidNumberu_initu : PySem.W.isFn K (.ref a_InvalidNumberu_initu) = true)
    (l__InvalidNumberu_initu : K.lookup a_InvalidNumberu_initu = some ⟨oc_InvalidNumberu_initu, od_InvalidNumberu_initu, .func (PySem.W.fnOf "__init__" "InvalidNumber.__init__" (defArgs s_InvalidNumberu_initu) (defBody s_InvalidNumberu_initu) (defScope s_InvalidNumberu_initu) .none kV_InvalidNumberu_initu dc_InvalidNumberu_initu pm_InvalidNumberu_initu an_InvalidNumberu_initu cd_InvalidNumberu_initu ct_InvalidNumberu_initu), sl_InvalidNumberu_initu⟩)
    (c__InvalidNumberu_initu : PySem.W.codeIn K cd_InvalidNumberu_initu "InvalidNumber.__init__" = true)
    (k__InvalidNumberu_initu : PySem.W.keepIn K (.ref a_InvalidNumberu_initu) = true)
    (a__UnknownNameu_initu : PySem.W.findIn K (.ref a_UnknownName) "__init__" = some (some (.ref a_UnknownNameu_initu)))
    (i__UnknownNameu_initu : PySem.W.isFn K (.ref a_UnknownNameu_initu) = true)
    (l__UnknownNameu_initu : K.lookup a_UnknownNameu_initu = some ⟨oc_UnknownNameu_initu, od_UnknownNameu_initu, .func (PySem.W.fnOf "__init__" "UnknownName.__init__" (defArgs s_UnknownNameu_initu) (defBody s_UnknownNameu_initu) (defScope s_UnknownNameu_initu) .none kV_UnknownNameu_initu dc_UnknownNameu_initu pm_UnknownNameu_initu an_UnknownNameu_initu cd_UnknownNameu_initu ct_UnknownNameu_initu), sl_UnknownNameu_initu⟩)
    (c__UnknownNameu_initu : PySem.W.codeIn K cd_UnknownNameu_initu "UnknownName.__init__" = true)
    (k__UnknownNameu_initu : PySem.W.keepIn K (.ref a_UnknownNameu_initu) = true)
    (a__TooManyu_initu : PySem.W.findIn K (.ref a_TooMany) "__init__" = some (some (.ref a_TooManyu_initu)))
    (i__TooManyu_initu : PySem.W.isFn K (.ref a_TooManyu_initu) = true)
    (l__TooManyu_initu : K.lookup a_TooManyu_initu = some ⟨oc_TooManyu_initu, od_TooManyu_initu, .func (PySem.W.fnOf "__init__" "TooMany.__init__" (defArgs s_TooManyu_initu) (defBody s_TooManyu_initu) (defScope s_TooManyu_initu) .none kV_TooManyu_initu dc_TooManyu_initu pm_TooManyu_initu an_TooManyu_initu cd_TooManyu_initu ct_TooManyu_initu), sl_TooManyu_initu⟩)
    (c__TooManyu_initu : PySem.W.codeIn K cd_TooManyu_initu "TooMany.__init__" = true)
    (k__TooManyu_initu : PySem.W.keepIn K (.ref a_TooManyu_initu) = true)
    (a__NothingToUndou_initu : PySem.W.findIn K (.ref a_NothingToUndo) "__init__" = some (some (.ref a_NothingToUndou_initu)))
    (i__NothingToUndou_initu : PySem.W.isFn K (.ref a_NothingToUndou_initu) = true)
    (l__NothingToUndou_initu : K.lookup a_NothingToUndou_initu = some ⟨oc_NothingToUndou_initu, od_NothingToUndou_initu, .func (PySem.W.fnOf "__init__" "NothingToUndo.__init__" (defArgs s_NothingToUndou_initu) (defBody s_NothingToUndou_initu) (defScope s_NothingToUndou_initu) .none kV_NothingToUndou_initu dc_NothingToUndou_initu pm_NothingToUndou_initu an_NothingToUndou_initu cd_NothingToUndou_initu ct_NothingToUndou_initu), sl_NothingToUndou_initu⟩)
    (c__NothingToUndou_initu : PySem.W.codeIn K cd_NothingToUndou_initu "NothingToUndo.__init__" = true)
    (k__NothingToUndou_initu : PySem.W.keepIn K (.ref a_NothingToUndou_initu) = true)
    (a__Refusedu_initu : PySem.W.findIn K (.ref a_Refused) "__init__" = some (some (.ref a_Refusedu_initu)))
    (i__Refusedu_initu : PySem.W.isFn K (.ref a_Refusedu_initu) = true)
    (l__Refusedu_initu : K.lookup a_Refusedu_initu = some ⟨oc_Refusedu_initu, od_Refusedu_initu, .func (PySem.W.fnOf "__init__" "Refused.__init__" (defArgs s_Refusedu_initu) (defBody s_Refusedu_initu) (defScope s_Refusedu_initu) .none kV_Refusedu_initu dc_Refusedu_initu pm_Refusedu_initu an_Refusedu_initu cd_Refusedu_initu ct_Refusedu_initu), sl_Refusedu_initu⟩)
    (c__Refusedu_initu : PySem.W.codeIn K cd_Refusedu_initu "Refused.__init__" = true)
    (k__Refusedu_initu : PySem.W.keepIn K (.ref a_Refusedu_initu) = true)
    (a___law_pail : PySem.W.nsIn K mainGlobals "_law_pail" = some (some (.ref a__law_pail)))
    (l___law_pail : K.lookup a__law_pail = some ⟨oc__law_pail, od__law_pail, .func (PySem.W.fnOf "_law_pail" "_law_pail" (defArgs s__law_pail) (defBody s__law_pail) (defScope s__law_pail) .none kV__law_pail dc__law_pail pm__law_pail an__law_pail cd__law_pail ct__law_pail), sl__law_pail⟩)
    (c___law_pail : PySem.W.codeIn K cd__law_pail "_law_pail" = true)
    (k___law_pail : PySem.W.keepIn K (.ref a__law_pail) = true)
    (a___law_scooped : PySem.W.nsIn K mainGlobals "_law_scooped" = some (some (.ref a__law_scooped)))
    (l___law_scooped : K.lookup a__law_scooped = some ⟨oc__law_scooped, od__law_scooped, .func (PySem.W.fnOf "_law_scooped" "_law_scooped" (defArgs s__law_scooped) (defBody s__law_scooped) (defScope s__law_scooped) .none kV__law_scooped dc__law_scooped pm__law_scooped an__law_scooped cd__law_scooped ct__law_scooped), sl__law_scooped⟩)
    (c___law_scooped : PySem.W.codeIn K cd__law_scooped "_law_scooped" = true)
    (k___law_scooped : PySem.W.keepIn K (.ref a__law_scooped) = true)
    (a___law_any_of : PySem.W.nsIn K mainGlobals "_law_any_of" = some (some (.ref a__law_any_of)))
    (l___law_any_of : K.lookup a__law_any_of = some ⟨oc__law_any_of, od__law_any_of, .func (PySem.W.fnOf "_law_any_of" "_law_any_of" (defArgs s__law_any_of) (defBody s__law_any_of) (defScope s__law_any_of) .none kV__law_any_of dc__law_any_of pm__law_any_of an__law_any_of cd__law_any_of ct__law_any_of), sl__law_any_of⟩)
    (c___law_any_of : PySem.W.codeIn K cd__law_any_of "_law_any_of" = true)
    (k___law_any_of : PySem.W.keepIn K (.ref a__law_any_of) = true)
    (a___law_raise : PySem.W.nsIn K mainGlobals "_law_raise" = some (some (.ref a__law_raise)))
    (l___law_raise : K.lookup a__law_raise = some ⟨oc__law_raise, od__law_raise, .func (PySem.W.fnOf "_law_raise" "_law_raise" (defArgs s__law_raise) (defBody s__law_raise) (defScope s__law_raise) .none kV__law_raise dc__law_raise pm__law_raise an__law_raise cd__law_raise ct__law_raise), sl__law_raise⟩)
    (c___law_raise : PySem.W.codeIn K cd__law_raise "_law_raise" = true)
    (k___law_raise : PySem.W.keepIn K (.ref a__law_raise) = true)
    (a___law_raise_kept : PySem.W.nsIn K mainGlobals "_law_raise_kept" = some (some (.ref a__law_raise_kept)))
    (l___law_raise_kept : K.lookup a__law_raise_kept = some ⟨oc__law_raise_kept, od__law_raise_kept, .func (PySem.W.fnOf "_law_raise_kept" "_law_raise_kept" (defArgs s__law_raise_kept) (defBody s__law_raise_kept) (defScope s__law_raise_kept) .none kV__law_raise_kept dc__law_raise_kept pm__law_raise_kept an__law_raise_kept cd__law_raise_kept ct__law_raise_kept), sl__law_raise_kept⟩)
    (c___law_raise_kept : PySem.W.codeIn K cd__law_raise_kept "_law_raise_kept" = true)
    (k___law_raise_kept : PySem.W.keepIn K (.ref a__law_raise_kept) = true)
    (a___law_roots : PySem.W.nsIn K mainGlobals "_law_roots" = some (some (.ref a__law_roots)))
    (l___law_roots : K.lookup a__law_roots = some ⟨oc__law_roots, od__law_roots, .func (PySem.W.fnOf "_law_roots" "_law_roots" (defArgs s__law_roots) (defBody s__law_roots) (defScope s__law_roots) .none kV__law_roots dc__law_roots pm__law_roots an__law_roots cd__law_roots ct__law_roots), sl__law_roots⟩)
    (c___law_roots : PySem.W.codeIn K cd__law_roots "_law_roots" = true)
    (k___law_roots : PySem.W.keepIn K (.ref a__law_roots) = true)
    (a___law_caught : PySem.W.nsIn K mainGlobals "_law_caught" = some (some (.ref a__law_caught)))
    (l___law_caught : K.lookup a__law_caught = some ⟨oc__law_caught, od__law_caught, .func (PySem.W.fnOf "_law_caught" "_law_caught" (defArgs s__law_caught) (defBody s__law_caught) (defScope s__law_caught) .none kV__law_caught dc__law_caught pm__law_caught an__law_caught cd__law_caught ct__law_caught), sl__law_caught⟩)
    (c___law_caught : PySem.W.codeIn K cd__law_caught "_law_caught" = true)
    (k___law_caught : PySem.W.keepIn K (.ref a__law_caught) = true)
    (a___law_right : PySem.W.nsIn K mainGlobals "_law_right" = some (some (.ref a__law_right)))
    (l___law_right : K.lookup a__law_right = some ⟨oc__law_right, od__law_right, .func (PySem.W.fnOf "_law_right" "_law_right" (defArgs s__law_right) (defBody s__law_right) (defScope s__law_right) .none kV__law_right dc__law_right pm__law_right an__law_right cd__law_right ct__law_right), sl__law_right⟩)
    (c___law_right : PySem.W.codeIn K cd__law_right "_law_right" = true)
    (k___law_right : PySem.W.keepIn K (.ref a__law_right) = true)
    (a__law : PySem.W.nsIn K mainGlobals "law" = some (some (.ref a_law)))
    (l__law : K.lookup a_law = some ⟨oc_law, od_law, .func (PySem.W.fnOf "law" "law" (defArgs s_law) (defBody s_law) (defScope s_law) .none kV_law dc_law pm_law an_law cd_law ct_law), sl_law⟩)
    (c__law : PySem.W.codeIn K cd_law "law" = true)
    (k__law : PySem.W.keepIn K (.ref a_law) = true)
    (z_isinstance : PySem.W.nsIn K mainGlobals "isinstance" = some none)
    (z_len : PySem.W.nsIn K mainGlobals "len" = some none)
    (z_max : PySem.W.nsIn K mainGlobals "max" = some none)
    (z_min : PySem.W.nsIn K mainGlobals "min" = some none)
    (z_abs : PySem.W.nsIn K mainGlobals "abs" = some none)
    (z_range : PySem.W.nsIn K mainGlobals "range" = some none)
    (z_sorted : PySem.W.nsIn K mainGlobals "sorted" = some none)
    (z_repr : PySem.W.nsIn K mainGlobals "repr" = some none)
    (z_int : PySem.W.nsIn K mainGlobals "int" = some none)
    (z_ValueError : PySem.W.nsIn K mainGlobals "ValueError" = some none)
    (z_IndexError : PySem.W.nsIn K mainGlobals "IndexError" = some none)
    (z_KeyError : PySem.W.nsIn K mainGlobals "KeyError" = some none)
    (z_OverflowError : PySem.W.nsIn K mainGlobals "OverflowError" = some none)
    (z_ArithmeticError : PySem.W.nsIn K mainGlobals "ArithmeticError" = some none)
    (z_LookupError : PySem.W.nsIn K mainGlobals "LookupError" = some none)
    (k_InvalidRow : PySem.W.keepIn K (.ref a_InvalidRow) = true)
    (be_InvalidRow : PySem.W.subIn K (.ref a_InvalidRow) (.type "BaseException") = some true)
    (ty_InvalidRow : PySem.W.typeIn K (.ref a_InvalidRow) = some (.type "type"))
    (ic_InvalidRow : PySem.W.isClsIn K a_InvalidRow = true)
    (x_InvalidRow : PySem.W.excIn K a_InvalidRow [.type "ValueError", .type "Exception", .type "BaseException", .type "object"] "ValueError.__new__" = true)
    (k_InvalidLot : PySem.W.keepIn K (.ref a_InvalidLot) = true)
    (be_InvalidLot : PySem.W.subIn K (.ref a_InvalidLot) (.type "BaseException") = some true)
    (ty_InvalidLot : PySem.W.typeIn K (.ref a_InvalidLot) = some (.type "type"))
    (ic_InvalidLot : PySem.W.isClsIn K a_InvalidLot = true)
    (x_InvalidLot : PySem.W.excIn K a_InvalidLot [.type "ValueError", .type "Exception", .type "BaseException", .type "object"] "ValueError.__new__" = true)
    (k_InvalidReading : PySem.W.keepIn K (.ref a_InvalidReading) = true)
    (be_InvalidReading : PySem.W.subIn K (.ref a_InvalidReading) (.type "BaseException") = some true)
    (ty_InvalidReading : PySem.W.typeIn K (.ref a_InvalidReading) = some (.type "type"))
    (ic_InvalidReading : PySem.W.isClsIn K a_InvalidReading = true)
    (x_InvalidReading : PySem.W.excIn K a_InvalidReading [.type "ValueError", .type "Exception", .type "BaseException", .type "object"] "ValueError.__new__" = true)
    (k_InvalidNetwork : PySem.W.keepIn K (.ref a_InvalidNetwork) = true)
    (be_InvalidNetwork : PySem.W.subIn K (.ref a_InvalidNetwork) (.type "BaseException") = some true)
    (ty_InvalidNetwork : PySem.W.typeIn K (.ref a_InvalidNetwork) = some (.type "type"))
    (ic_InvalidNetwork : PySem.W.isClsIn K a_InvalidNetwork = true)
    (x_InvalidNetwork : PySem.W.excIn K a_InvalidNetwork [.type "ValueError", .type "Exception", .type "BaseException", .type "object"] "ValueError.__new__" = true)
    (k_InvalidGrowth : PySem.W.keepIn K (.ref a_InvalidGrowth) = true)
    (be_InvalidGrowth : PySem.W.subIn K (.ref a_InvalidGrowth) (.type "BaseException") = some true)
    (ty_InvalidGrowth : PySem.W.typeIn K (.ref a_InvalidGrowth) = some (.type "type"))
    (ic_InvalidGrowth : PySem.W.isClsIn K a_InvalidGrowth = true)
    (x_InvalidGrowth : PySem.W.excIn K a_InvalidGrowth [.type "ValueError", .type "Exception", .type "BaseException", .type "object"] "ValueError.__new__" = true)
    (k_InvalidOperation : PySem.W.keepIn K (.ref a_InvalidOperation) = true)
    (be_InvalidOperation : PySem.W.subIn K (.ref a_InvalidOperation) (.type "BaseException") = some true)
    (ty_InvalidOperation : PySem.W.typeIn K (.ref a_InvalidOperation) = some (.type "type"))
    (ic_InvalidOperation : PySem.W.isClsIn K a_InvalidOperation = true)
    (x_InvalidOperation : PySem.W.excIn K a_InvalidOperation [.type "ValueError", .type "Exception", .type "BaseException", .type "object"] "ValueError.__new__" = true)
    (k_InvalidText : PySem.W.keepIn K (.ref a_InvalidText) = true)
    (be_InvalidText : PySem.W.subIn K (.ref a_InvalidText) (.type "BaseException") = some true)
    (ty_InvalidText : PySem.W.typeIn K (.ref a_InvalidText) = some (.type "type"))
    (ic_InvalidText : PySem.W.isClsIn K a_InvalidText = true)
    (x_InvalidText : PySem.W.excIn K a_InvalidText [.type "ValueError", .type "Exception", .type "BaseException", .type "object"] "ValueError.__new__" = true)
    (k_InvalidClaim : PySem.W.keepIn K (.ref a_InvalidClaim) = true)
    (be_InvalidClaim : PySem.W.subIn K (.ref a_InvalidClaim) (.type "BaseException") = some true)
    (ty_InvalidClaim : PySem.W.typeIn K (.ref a_InvalidClaim) = some (.type "type"))
    (ic_InvalidClaim : PySem.W.isClsIn K a_InvalidClaim = true)
    (x_InvalidClaim : PySem.W.excIn K a_InvalidClaim [.type "ValueError", .type "Exception", .type "BaseException", .type "object"] "ValueError.__new__" = true)
    (k_ParseError : PySem.W.keepIn K (.ref a_ParseError) = true)
    (be_ParseError : PySem.W.subIn K (.ref a_ParseError) (.type "BaseException") = some true)
    (ty_ParseError : PySem.W.typeIn K (.ref a_ParseError) = some (.type "type"))
    (ic_ParseError : PySem.W.isClsIn K a_ParseError = true)
    (ol_ParseError : ∃ nm q N bs bm sn sub ab col dd k0 k1 k2 k3 k5, K.lookup a_ParseError = some (PySem.excClassObj nm q a_ParseError N bs bm true sn sub ab col dd k0 k1 k2 k3 k5 "ValueError.__new__") ∧ PySem.HandSPX.refsVE bm = true)
    (os_ParseError : PySem.W.findIn K (.ref a_ParseError) "__setattr__" = some (some (.builtin "object.__setattr__")))
    (ot_ParseError : PySem.W.typeIn K (.ref a_ParseErroru_initu) = some (.type "function"))
    (nf_ParseError : PySem.W.findIn K (.ref a_ParseError) "spot" = some none)
    (ga_ParseError : PySem.W.findIn K (.ref a_ParseError) "__getattribute__" = some (some (.builtin "BaseException.__getattribute__")))
    (gg_ParseError : PySem.W.findIn K (.ref a_ParseError) "__getattr__" = some none)
    (hc_ParseError : PySem.W.hasDictIn K a_ParseError = true)
    (k_RampError : PySem.W.keepIn K (.ref a_RampError) = true)
    (be_RampError : PySem.W.subIn K (.ref a_RampError) (.type "BaseException") = some true)
    (ty_RampError : PySem.W.typeIn K (.ref a_RampError) = some (.type "type"))
    (ic_RampError : PySem.W.isClsIn K a_RampError = true)
    (x_RampError : PySem.W.excIn K a_RampError [.type "ValueError", .type "Exception", .type "BaseException", .type "object"] "ValueError.__new__" = true)
    (k_InvalidNumber : PySem.W.keepIn K (.ref a_InvalidNumber) = true)
    (be_InvalidNumber : PySem.W.subIn K (.ref a_InvalidNumber) (.type "BaseException") = some true)
    (ty_InvalidNumber : PySem.W.typeIn K (.ref a_InvalidNumber) = some (.type "type"))
    (ic_InvalidNumber : PySem.W.isClsIn K a_InvalidNumber = true)
    (ol_InvalidNumber : ∃ nm q N bs sn sub ab col dd k0 k1 k2 k3 k5, K.lookup a_InvalidNumber = some (PySem.excClassObj nm q a_InvalidNumber N bs [.type "IndexError", .type "LookupError", .type "Exception", .type "BaseException", .type "object"] true sn sub ab col dd k0 k1 k2 k3 k5 "IndexError.__new__"))
    (os_InvalidNumber : PySem.W.findIn K (.ref a_InvalidNumber) "__setattr__" = some (some (.builtin "object.__setattr__")))
    (ot_InvalidNumber : PySem.W.typeIn K (.ref a_InvalidNumberu_initu) = some (.type "function"))
    (nf_InvalidNumber : PySem.W.findIn K (.ref a_InvalidNumber) "given" = some none)
    (ga_InvalidNumber : PySem.W.findIn K (.ref a_InvalidNumber) "__getattribute__" = some (some (.builtin "BaseException.__getattribute__")))
    (gg_InvalidNumber : PySem.W.findIn K (.ref a_InvalidNumber) "__getattr__" = some none)
    (hc_InvalidNumber : PySem.W.hasDictIn K a_InvalidNumber = true)
    (k_UnknownName : PySem.W.keepIn K (.ref a_UnknownName) = true)
    (be_UnknownName : PySem.W.subIn K (.ref a_UnknownName) (.type "BaseException") = some true)
    (ty_UnknownName : PySem.W.typeIn K (.ref a_UnknownName) = some (.type "type"))
    (ic_UnknownName : PySem.W.isClsIn K a_UnknownName = true)
    (ol_UnknownName : ∃ nm q N bs sn sub ab col dd k0 k1 k2 k3 k5, K.lookup a_UnknownName = some (PySem.excClassObj nm q a_UnknownName N bs [.type "KeyError", .type "LookupError", .type "Exception", .type "BaseException", .type "object"] true sn sub ab col dd k0 k1 k2 k3 k5 "LookupError.__new__"))
    (os_UnknownName : PySem.W.findIn K (.ref a_UnknownName) "__setattr__" = some (some (.builtin "object.__setattr__")))
    (ot_UnknownName : PySem.W.typeIn K (.ref a_UnknownNameu_initu) = some (.type "function"))
    (nf_UnknownName : PySem.W.findIn K (.ref a_UnknownName) "wanted" = some none)
    (ga_UnknownName : PySem.W.findIn K (.ref a_UnknownName) "__getattribute__" = some (some (.builtin "BaseException.__getattribute__")))
    (gg_UnknownName : PySem.W.findIn K (.ref a_UnknownName) "__getattr__" = some none)
    (hc_UnknownName : PySem.W.hasDictIn K a_UnknownName = true)
    (k_NothingToUndo : PySem.W.keepIn K (.ref a_NothingToUndo) = true)
    (be_NothingToUndo : PySem.W.subIn K (.ref a_NothingToUndo) (.type "BaseException") = some true)
    (ty_NothingToUndo : PySem.W.typeIn K (.ref a_NothingToUndo) = some (.type "type"))
    (ic_NothingToUndo : PySem.W.isClsIn K a_NothingToUndo = true)
    (ol_NothingToUndo : ∃ nm q N bs sn sub ab col dd k0 k1 k2 k3 k5, K.lookup a_NothingToUndo = some (PySem.excClassObj nm q a_NothingToUndo N bs [.type "LookupError", .type "Exception", .type "BaseException", .type "object"] true sn sub ab col dd k0 k1 k2 k3 k5 "LookupError.__new__"))
    (os_NothingToUndo : PySem.W.findIn K (.ref a_NothingToUndo) "__setattr__" = some (some (.builtin "object.__setattr__")))
    (ot_NothingToUndo : PySem.W.typeIn K (.ref a_NothingToUndou_initu) = some (.type "function"))
    (nf_NothingToUndo : PySem.W.findIn K (.ref a_NothingToUndo) "done" = some none)
    (ga_NothingToUndo : PySem.W.findIn K (.ref a_NothingToUndo) "__getattribute__" = some (some (.builtin "BaseException.__getattribute__")))
    (gg_NothingToUndo : PySem.W.findIn K (.ref a_NothingToUndo) "__getattr__" = some none)
    (hc_NothingToUndo : PySem.W.hasDictIn K a_NothingToUndo = true)
    (k_TooMany : PySem.W.keepIn K (.ref a_TooMany) = true)
    (be_TooMany : PySem.W.subIn K (.ref a_TooMany) (.type "BaseException") = some true)
    (ty_TooMany : PySem.W.typeIn K (.ref a_TooMany) = some (.type "type"))
    (ic_TooMany : PySem.W.isClsIn K a_TooMany = true)
    (ol_TooMany : ∃ nm q N bs sn sub ab col dd k0 k1 k2 k3 k5, K.lookup a_TooMany = some (PySem.excClassObj nm q a_TooMany N bs [.type "OverflowError", .type "ArithmeticError", .type "Exception", .type "BaseException", .type "object"] true sn sub ab col dd k0 k1 k2 k3 k5 "OverflowError.__new__"))
    (os_TooMany : PySem.W.findIn K (.ref a_TooMany) "__setattr__" = some (some (.builtin "object.__setattr__")))
    (ot_TooMany : PySem.W.typeIn K (.ref a_TooManyu_initu) = some (.type "function"))
    (nf_TooMany : PySem.W.findIn K (.ref a_TooMany) "limit" = some none)
    (ga_TooMany : PySem.W.findIn K (.ref a_TooMany) "__getattribute__" = some (some (.builtin "BaseException.__getattribute__")))
    (gg_TooMany : PySem.W.findIn K (.ref a_TooMany) "__getattr__" = some none)
    (hc_TooMany : PySem.W.hasDictIn K a_TooMany = true)
    (k_Refused : PySem.W.keepIn K (.ref a_Refused) = true)
    (be_Refused : PySem.W.subIn K (.ref a_Refused) (.type "BaseException") = some true)
    (ty_Refused : PySem.W.typeIn K (.ref a_Refused) = some (.type "type"))
    (ic_Refused : PySem.W.isClsIn K a_Refused = true)
    (ol_Refused : ∃ nm q N bs sn sub ab col dd k0 k1 k2 k3 k5, K.lookup a_Refused = some (PySem.excClassObj nm q a_Refused N bs [.type "ArithmeticError", .type "Exception", .type "BaseException", .type "object"] true sn sub ab col dd k0 k1 k2 k3 k5 "ArithmeticError.__new__"))
    (os_Refused : PySem.W.findIn K (.ref a_Refused) "__setattr__" = some (some (.builtin "object.__setattr__")))
    (ot_Refused : PySem.W.typeIn K (.ref a_Refusedu_initu) = some (.type "function"))
    (nf_Refused : PySem.W.findIn K (.ref a_Refused) "reason" = some none)
    (ga_Refused : PySem.W.findIn K (.ref a_Refused) "__getattribute__" = some (some (.builtin "BaseException.__getattribute__")))
    (gg_Refused : PySem.W.findIn K (.ref a_Refused) "__getattr__" = some none)
    (hc_Refused : PySem.W.hasDictIn K a_Refused = true)
    (cn_ : PySem.W.specialIn K (.builtin "object.__class__") "__get__" = some (some (.builtin "getset_descriptor.__get__")))
    (ct_ : PySem.W.takesIn K (.builtin "object.__class__") = some true)
    (xk_InvalidRow : PySem.W.findIn K (.ref a_InvalidRow) "__getattribute__" = some (some (.builtin "BaseException.__getattribute__")) ∧ PySem.W.findIn K (.ref a_InvalidRow) "__getattr__" = some none ∧ PySem.W.findIn K (.ref a_InvalidRow) "__class__" = some (some (.builtin "object.__class__")) ∧ PySem.W.mroIn K a_InvalidRow (.type "object") = some true)
    (rt_InvalidRow : PySem.W.subIn K (.ref a_InvalidRow) (.type "ValueError") = some true ∧ PySem.W.subIn K (.ref a_InvalidRow) (.type "IndexError") = some false ∧ PySem.W.subIn K (.ref a_InvalidRow) (.type "KeyError") = some false ∧ PySem.W.subIn K (.ref a_InvalidRow) (.type "OverflowError") = some false ∧ PySem.W.subIn K (.ref a_InvalidRow) (.type "ArithmeticError") = some false ∧ PySem.W.subIn K (.ref a_InvalidRow) (.type "LookupError") = some false ∧ PySem.W.subIn K (.ref a_InvalidRow) (.ref a_RampError) = some true)
    (sb_InvalidRow : PySem.W.subIn K (.ref a_InvalidRow) (.ref a_InvalidRow) = some true)
    (xk_InvalidLot : PySem.W.findIn K (.ref a_InvalidLot) "__getattribute__" = some (some (.builtin "BaseException.__getattribute__")) ∧ PySem.W.findIn K (.ref a_InvalidLot) "__getattr__" = some none ∧ PySem.W.findIn K (.ref a_InvalidLot) "__class__" = some (some (.builtin "object.__class__")) ∧ PySem.W.mroIn K a_InvalidLot (.type "object") = some true)
    (rt_InvalidLot : PySem.W.subIn K (.ref a_InvalidLot) (.type "ValueError") = some true ∧ PySem.W.subIn K (.ref a_InvalidLot) (.type "IndexError") = some false ∧ PySem.W.subIn K (.ref a_InvalidLot) (.type "KeyError") = some false ∧ PySem.W.subIn K (.ref a_InvalidLot) (.type "OverflowError") = some false ∧ PySem.W.subIn K (.ref a_InvalidLot) (.type "ArithmeticError") = some false ∧ PySem.W.subIn K (.ref a_InvalidLot) (.type "LookupError") = some false ∧ PySem.W.subIn K (.ref a_InvalidLot) (.ref a_RampError) = some true)
    (sb_InvalidLot : PySem.W.subIn K (.ref a_InvalidLot) (.ref a_InvalidRow) = some false ∧ PySem.W.subIn K (.ref a_InvalidLot) (.ref a_InvalidLot) = some true)
    (xk_InvalidReading : PySem.W.findIn K (.ref a_InvalidReading) "__getattribute__" = some (some (.builtin "BaseException.__getattribute__")) ∧ PySem.W.findIn K (.ref a_InvalidReading) "__getattr__" = some none ∧ PySem.W.findIn K (.ref a_InvalidReading) "__class__" = some (some (.builtin "object.__class__")) ∧ PySem.W.mroIn K a_InvalidReading (.type "object") = some true)
    (rt_InvalidReading : PySem.W.subIn K (.ref a_InvalidReading) (.type "ValueError") = some true ∧ PySem.W.subIn K (.ref a_InvalidReading) (.type "IndexError") = some false ∧ PySem.W.subIn K (.ref a_InvalidReading) (.type "KeyError") = some false ∧ PySem.W.subIn K (.ref a_InvalidReading) (.type "OverflowError") = some false ∧ PySem.W.subIn K (.ref a_InvalidReading) (.type "ArithmeticError") = some false ∧ PySem.W.subIn K (.ref a_InvalidReading) (.type "LookupError") = some false ∧ PySem.W.subIn K (.ref a_InvalidReading) (.ref a_RampError) = some true)
    (sb_InvalidReading : PySem.W.subIn K (.ref a_InvalidReading) (.ref a_InvalidRow) = some false ∧ PySem.W.subIn K (.ref a_InvalidReading) (.ref a_InvalidLot) = some false ∧ PySem.W.subIn K (.ref a_InvalidReading) (.ref a_InvalidReading) = some true)
    (xk_InvalidNetwork : PySem.W.findIn K (.ref a_InvalidNetwork) "__getattribute__" = some (some (.builtin "BaseException.__getattribute__")) ∧ PySem.W.findIn K (.ref a_InvalidNetwork) "__getattr__" = some none ∧ PySem.W.findIn K (.ref a_InvalidNetwork) "__class__" = some (some (.builtin "object.__class__")) ∧ PySem.W.mroIn K a_InvalidNetwork (.type "object") = some true)
    (rt_InvalidNetwork : PySem.W.subIn K (.ref a_InvalidNetwork) (.type "ValueError") = some true ∧ PySem.W.subIn K (.ref a_InvalidNetwork) (.type "IndexError") = some false ∧ PySem.W.subIn K (.ref a_InvalidNetwork) (.type "KeyError") = some false ∧ PySem.W.subIn K (.ref a_InvalidNetwork) (.type "OverflowError") = some false ∧ PySem.W.subIn K (.ref a_InvalidNetwork) (.type "ArithmeticError") = some false ∧ PySem.W.subIn K (.ref a_InvalidNetwork) (.type "LookupError") = some false ∧ PySem.W.subIn K (.ref a_InvalidNetwork) (.ref a_RampError) = some true)
    (sb_InvalidNetwork : PySem.W.subIn K (.ref a_InvalidNetwork) (.ref a_InvalidRow) = some false ∧ PySem.W.subIn K (.ref a_InvalidNetwork) (.ref a_InvalidLot) = some false ∧ PySem.W.subIn K (.ref a_InvalidNetwork) (.ref a_InvalidReading) = some false ∧ PySem.W.subIn K (.ref a_InvalidNetwork) (.ref a_InvalidNetwork) = some true)
    (xk_InvalidGrowth : PySem.W.findIn K (.ref a_InvalidGrowth) "__getattribute__" = some (some (.builtin "BaseException.__getattribute__")) ∧ PySem.W.findIn K (.ref a_InvalidGrowth) "__getattr__" = some none ∧ PySem.W.findIn K (.ref a_InvalidGrowth) "__class__" = some (some (.builtin "object.__class__")) ∧ PySem.W.mroIn K a_InvalidGrowth (.type "object") = some true)
    (rt_InvalidGrowth : PySem.W.subIn K (.ref a_InvalidGrowth) (.type "ValueError") = some true ∧ PySem.W.subIn K (.ref a_InvalidGrowth) (.type "IndexError") = some false ∧ PySem.W.subIn K (.ref a_InvalidGrowth) (.type "KeyError") = some false ∧ PySem.W.subIn K (.ref a_InvalidGrowth) (.type "OverflowError") = some false ∧ PySem.W.subIn K (.ref a_InvalidGrowth) (.type "ArithmeticError") = some false ∧ PySem.W.subIn K (.ref a_InvalidGrowth) (.type "LookupError") = some false ∧ PySem.W.subIn K (.ref a_InvalidGrowth) (.ref a_RampError) = some true)
    (sb_InvalidGrowth : PySem.W.subIn K (.ref a_InvalidGrowth) (.ref a_InvalidRow) = some false ∧ PySem.W.subIn K (.ref a_InvalidGrowth) (.ref a_InvalidLot) = some false ∧ PySem.W.subIn K (.ref a_InvalidGrowth) (.ref a_InvalidReading) = some false ∧ PySem.W.subIn K (.ref a_InvalidGrowth) (.ref a_InvalidNetwork) = some false ∧ PySem.W.subIn K (.ref a_InvalidGrowth) (.ref a_InvalidGrowth) = some true)
    (xk_InvalidOperation : PySem.W.findIn K (.ref a_InvalidOperation) "__getattribute__" = some (some (.builtin "BaseException.__getattribute__")) ∧ PySem.W.findIn K (.ref a_InvalidOperation) "__getattr__" = some none ∧ PySem.W.findIn K (.ref a_InvalidOperation) "__class__" = some (some (.builtin "object.__class__")) ∧ PySem.W.mroIn K a_InvalidOperation (.type "object") = some true)
    (rt_InvalidOperation : PySem.W.subIn K (.ref a_InvalidOperation) (.type "ValueError") = some true ∧ PySem.W.subIn K (.ref a_InvalidOperation) (.type "IndexError") = some false ∧ PySem.W.subIn K (.ref a_InvalidOperation) (.type "KeyError") = some false ∧ PySem.W.subIn K (.ref a_InvalidOperation) (.type "OverflowError") = some false ∧ PySem.W.subIn K (.ref a_InvalidOperation) (.type "ArithmeticError") = some false ∧ PySem.W.subIn K (.ref a_InvalidOperation) (.type "LookupError") = some false ∧ PySem.W.subIn K (.ref a_InvalidOperation) (.ref a_RampError) = some true)
    (sb_InvalidOperation : PySem.W.subIn K (.ref a_InvalidOperation) (.ref a_InvalidRow) = some false ∧ PySem.W.subIn K (.ref a_InvalidOperation) (.ref a_InvalidLot) = some false ∧ PySem.W.subIn K (.ref a_InvalidOperation) (.ref a_InvalidReading) = some false ∧ PySem.W.subIn K (.ref a_InvalidOperation) (.ref a_InvalidNetwork) = some false ∧ PySem.W.subIn K (.ref a_InvalidOperation) (.ref a_InvalidGrowth) = some false ∧ PySem.W.subIn K (.ref a_InvalidOperation) (.ref a_InvalidOperation) = some true)
    (xk_InvalidText : PySem.W.findIn K (.ref a_InvalidText) "__getattribute__" = some (some (.builtin "BaseException.__getattribute__")) ∧ PySem.W.findIn K (.ref a_InvalidText) "__getattr__" = some none ∧ PySem.W.findIn K (.ref a_InvalidText) "__class__" = some (some (.builtin "object.__class__")) ∧ PySem.W.mroIn K a_InvalidText (.type "object") = some true)
    (rt_InvalidText : PySem.W.subIn K (.ref a_InvalidText) (.type "ValueError") = some true ∧ PySem.W.subIn K (.ref a_InvalidText) (.type "IndexError") = some false ∧ PySem.W.subIn K (.ref a_InvalidText) (.type "KeyError") = some false ∧ PySem.W.subIn K (.ref a_InvalidText) (.type "OverflowError") = some false ∧ PySem.W.subIn K (.ref a_InvalidText) (.type "ArithmeticError") = some false ∧ PySem.W.subIn K (.ref a_InvalidText) (.type "LookupError") = some false ∧ PySem.W.subIn K (.ref a_InvalidText) (.ref a_RampError) = some true)
    (sb_InvalidText : PySem.W.subIn K (.ref a_InvalidText) (.ref a_InvalidRow) = some false ∧ PySem.W.subIn K (.ref a_InvalidText) (.ref a_InvalidLot) = some false ∧ PySem.W.subIn K (.ref a_InvalidText) (.ref a_InvalidReading) = some false ∧ PySem.W.subIn K (.ref a_InvalidText) (.ref a_InvalidNetwork) = some false ∧ PySem.W.subIn K (.ref a_InvalidText) (.ref a_InvalidGrowth) = some false ∧ PySem.W.subIn K (.ref a_InvalidText) (.ref a_InvalidOperation) = some false ∧ PySem.W.subIn K (.ref a_InvalidText) (.ref a_InvalidText) = some true)
    (xk_InvalidClaim : PySem.W.findIn K (.ref a_InvalidClaim) "__getattribute__" = some (some (.builtin "BaseException.__getattribute__")) ∧ PySem.W.findIn K (.ref a_InvalidClaim) "__getattr__" = some none ∧ PySem.W.findIn K (.ref a_InvalidClaim) "__class__" = some (some (.builtin "object.__class__")) ∧ PySem.W.mroIn K a_InvalidClaim (.type "object") = some true)
    (rt_InvalidClaim : PySem.W.subIn K (.ref a_InvalidClaim) (.type "ValueError") = some true ∧ PySem.W.subIn K (.ref a_InvalidClaim) (.type "IndexError") = some false ∧ PySem.W.subIn K (.ref a_InvalidClaim) (.type "KeyError") = some false ∧ PySem.W.subIn K (.ref a_InvalidClaim) (.type "OverflowError") = some false ∧ PySem.W.subIn K (.ref a_InvalidClaim) (.type "ArithmeticError") = some false ∧ PySem.W.subIn K (.ref a_InvalidClaim) (.type "LookupError") = some false ∧ PySem.W.subIn K (.ref a_InvalidClaim) (.ref a_RampError) = some true)
    (sb_InvalidClaim : PySem.W.subIn K (.ref a_InvalidClaim) (.ref a_InvalidRow) = some false ∧ PySem.W.subIn K (.ref a_InvalidClaim) (.ref a_InvalidLot) = some false ∧ PySem.W.subIn K (.ref a_InvalidClaim) (.ref a_InvalidReading) = some false ∧ PySem.W.subIn K (.ref a_InvalidClaim) (.ref a_InvalidNetwork) = some false ∧ PySem.W.subIn K (.ref a_InvalidClaim) (.ref a_InvalidGrowth) = some false ∧ PySem.W.subIn K (.ref a_InvalidClaim) (.ref a_InvalidOperation) = some false ∧ PySem.W.subIn K (.ref a_InvalidClaim) (.ref a_InvalidText) = some false ∧ PySem.W.subIn K (.ref a_InvalidClaim) (.ref a_InvalidClaim) = some true)
    (xk_ParseError : PySem.W.findIn K (.ref a_ParseError) "__getattribute__" = some (some (.builtin "BaseException.__getattribute__")) ∧ PySem.W.findIn K (.ref a_ParseError) "__getattr__" = some none ∧ PySem.W.findIn K (.ref a_ParseError) "__class__" = some (some (.builtin "object.__class__")) ∧ PySem.W.mroIn K a_ParseError (.type "object") = some true)
    (rt_ParseError : PySem.W.subIn K (.ref a_ParseError) (.type "ValueError") = some true ∧ PySem.W.subIn K (.ref a_ParseError) (.type "IndexError") = some false ∧ PySem.W.subIn K (.ref a_ParseError) (.type "KeyError") = some false ∧ PySem.W.subIn K (.ref a_ParseError) (.type "OverflowError") = some false ∧ PySem.W.subIn K (.ref a_ParseError) (.type "ArithmeticError") = some false ∧ PySem.W.subIn K (.ref a_ParseError) (.type "LookupError") = some false ∧ PySem.W.subIn K (.ref a_ParseError) (.ref a_RampError) = some true)
    (sb_ParseError : PySem.W.subIn K (.ref a_ParseError) (.ref a_InvalidRow) = some false ∧ PySem.W.subIn K (.ref a_ParseError) (.ref a_InvalidLot) = some false ∧ PySem.W.subIn K (.ref a_ParseError) (.ref a_InvalidReading) = some false ∧ PySem.W.subIn K (.ref a_ParseError) (.ref a_InvalidNetwork) = some false ∧ PySem.W.subIn K (.ref a_ParseError) (.ref a_InvalidGrowth) = some false ∧ PySem.W.subIn K (.ref a_ParseError) (.ref a_InvalidOperation) = some false ∧ PySem.W.subIn K (.ref a_ParseError) (.ref a_InvalidText) = some false ∧ PySem.W.subIn K (.ref a_ParseError) (.ref a_InvalidClaim) = some false ∧ PySem.W.subIn K (.ref a_ParseError) (.ref a_ParseError) = some true)
    (xk_RampError : PySem.W.findIn K (.ref a_RampError) "__getattribute__" = some (some (.builtin "BaseException.__getattribute__")) ∧ PySem.W.findIn K (.ref a_RampError) "__getattr__" = some none ∧ PySem.W.findIn K (.ref a_RampError) "__class__" = some (some (.builtin "object.__class__")) ∧ PySem.W.mroIn K a_RampError (.type "object") = some true)
    (rt_RampError : PySem.W.subIn K (.ref a_RampError) (.type "ValueError") = some true ∧ PySem.W.subIn K (.ref a_RampError) (.type "IndexError") = some false ∧ PySem.W.subIn K (.ref a_RampError) (.type "KeyError") = some false ∧ PySem.W.subIn K (.ref a_RampError) (.type "OverflowError") = some false ∧ PySem.W.subIn K (.ref a_RampError) (.type "ArithmeticError") = some false ∧ PySem.W.subIn K (.ref a_RampError) (.type "LookupError") = some false ∧ PySem.W.subIn K (.ref a_RampError) (.ref a_RampError) = some true)
    (sb_RampError : PySem.W.subIn K (.ref a_RampError) (.ref a_InvalidRow) = some false ∧ PySem.W.subIn K (.ref a_RampError) (.ref a_InvalidLot) = some false ∧ PySem.W.subIn K (.ref a_RampError) (.ref a_InvalidReading) = some false ∧ PySem.W.subIn K (.ref a_RampError) (.ref a_InvalidNetwork) = some false ∧ PySem.W.subIn K (.ref a_RampError) (.ref a_InvalidGrowth) = some false ∧ PySem.W.subIn K (.ref a_RampError) (.ref a_InvalidOperation) = some false ∧ PySem.W.subIn K (.ref a_RampError) (.ref a_InvalidText) = some false ∧ PySem.W.subIn K (.ref a_RampError) (.ref a_InvalidClaim) = some false ∧ PySem.W.subIn K (.ref a_RampError) (.ref a_ParseError) = some false ∧ PySem.W.subIn K (.ref a_RampError) (.ref a_RampError) = some true)
    (xk_InvalidNumber : PySem.W.findIn K (.ref a_InvalidNumber) "__getattribute__" = some (some (.builtin "BaseException.__getattribute__")) ∧ PySem.W.findIn K (.ref a_InvalidNumber) "__getattr__" = some none ∧ PySem.W.findIn K (.ref a_InvalidNumber) "__class__" = some (some (.builtin "object.__class__")) ∧ PySem.W.mroIn K a_InvalidNumber (.type "object") = some true)
    (rt_InvalidNumber : PySem.W.subIn K (.ref a_InvalidNumber) (.type "ValueError") = some false ∧ PySem.W.subIn K (.ref a_InvalidNumber) (.type "IndexError") = some true ∧ PySem.W.subIn K (.ref a_InvalidNumber) (.type "KeyError") = some false ∧ PySem.W.subIn K (.ref a_InvalidNumber) (.type "OverflowError") = some false ∧ PySem.W.subIn K (.ref a_InvalidNumber) (.type "ArithmeticError") = some false ∧ PySem.W.subIn K (.ref a_InvalidNumber) (.type "LookupError") = some true ∧ PySem.W.subIn K (.ref a_InvalidNumber) (.ref a_RampError) = some false)
    (sb_InvalidNumber : PySem.W.subIn K (.ref a_InvalidNumber) (.ref a_InvalidRow) = some false ∧ PySem.W.subIn K (.ref a_InvalidNumber) (.ref a_InvalidLot) = some false ∧ PySem.W.subIn K (.ref a_InvalidNumber) (.ref a_InvalidReading) = some false ∧ PySem.W.subIn K (.ref a_InvalidNumber) (.ref a_InvalidNetwork) = some false ∧ PySem.W.subIn K (.ref a_InvalidNumber) (.ref a_InvalidGrowth) = some false ∧ PySem.W.subIn K (.ref a_InvalidNumber) (.ref a_InvalidOperation) = some false ∧ PySem.W.subIn K (.ref a_InvalidNumber) (.ref a_InvalidText) = some false ∧ PySem.W.subIn K (.ref a_InvalidNumber) (.ref a_InvalidClaim) = some false ∧ PySem.W.subIn K (.ref a_InvalidNumber) (.ref a_ParseError) = some false ∧ PySem.W.subIn K (.ref a_InvalidNumber) (.ref a_RampError) = some false ∧ PySem.W.subIn K (.ref a_InvalidNumber) (.ref a_InvalidNumber) = some true)
    (xk_UnknownName : PySem.W.findIn K (.ref a_UnknownName) "__getattribute__" = some (some (.builtin "BaseException.__getattribute__")) ∧ PySem.W.findIn K (.ref a_UnknownName) "__getattr__" = some none ∧ PySem.W.findIn K (.ref a_UnknownName) "__class__" = some (some (.builtin "object.__class__")) ∧ PySem.W.mroIn K a_UnknownName (.type "object") = some true)
    (rt_UnknownName : PySem.W.subIn K (.ref a_UnknownName) (.type "ValueError") = some false ∧ PySem.W.subIn K (.ref a_UnknownName) (.type "IndexError") = some false ∧ PySem.W.subIn K (.ref a_UnknownName) (.type "KeyError") = some true ∧ PySem.W.subIn K (.ref a_UnknownName) (.type "OverflowError") = some false ∧ PySem.W.subIn K (.ref a_UnknownName) (.type "ArithmeticError") = some false ∧ PySem.W.subIn K (.ref a_UnknownName) (.type "LookupError") = some true ∧ PySem.W.subIn K (.ref a_UnknownName) (.ref a_RampError) = some false)
    (sb_UnknownName : PySem.W.subIn K (.ref a_UnknownName) (.ref a_InvalidRow) = some false ∧ PySem.W.subIn K (.ref a_UnknownName) (.ref a_InvalidLot) = some false ∧ PySem.W.subIn K (.ref a_UnknownName) (.ref a_InvalidReading) = some false ∧ PySem.W.subIn K (.ref a_UnknownName) (.ref a_InvalidNetwork) = some false ∧ PySem.W.subIn K (.ref a_UnknownName) (.ref a_InvalidGrowth) = some false ∧ PySem.W.subIn K (.ref a_UnknownName) (.ref a_InvalidOperation) = some false ∧ PySem.W.subIn K (.ref a_UnknownName) (.ref a_InvalidText) = some false ∧ PySem.W.subIn K (.ref a_UnknownName) (.ref a_InvalidClaim) = some false ∧ PySem.W.subIn K (.ref a_UnknownName) (.ref a_ParseError) = some false ∧ PySem.W.subIn K (.ref a_UnknownName) (.ref a_RampError) = some false ∧ PySem.W.subIn K (.ref a_UnknownName) (.ref a_InvalidNumber) = some false ∧ PySem.W.subIn K (.ref a_UnknownName) (.ref a_UnknownName) = some true)
    (xk_NothingToUndo : PySem.W.findIn K (.ref a_NothingToUndo) "__getattribute__" = some (some (.builtin "BaseException.__getattribute__")) ∧ PySem.W.findIn K (.ref a_NothingToUndo) "__getattr__" = some none ∧ PySem.W.findIn K (.ref a_NothingToUndo) "__class__" = some (some (.builtin "object.__class__")) ∧ PySem.W.mroIn K a_NothingToUndo (.type "object") = some true)
    (rt_NothingToUndo : PySem.W.subIn K (.ref a_NothingToUndo) (.type "ValueError") = some false ∧ PySem.W.subIn K (.ref a_NothingToUndo) (.type "IndexError") = some false ∧ PySem.W.subIn K (.ref a_NothingToUndo) (.type "KeyError") = some false ∧ PySem.W.subIn K (.ref a_NothingToUndo) (.type "OverflowError") = some false ∧ PySem.W.subIn K (.ref a_NothingToUndo) (.type "ArithmeticError") = some false ∧ PySem.W.subIn K (.ref a_NothingToUndo) (.type "LookupError") = some true ∧ PySem.W.subIn K (.ref a_NothingToUndo) (.ref a_RampError) = some false)
    (sb_NothingToUndo : PySem.W.subIn K (.ref a_NothingToUndo) (.ref a_InvalidRow) = some false ∧ PySem.W.subIn K (.ref a_NothingToUndo) (.ref a_InvalidLot) = some false ∧ PySem.W.subIn K (.ref a_NothingToUndo) (.ref a_InvalidReading) = some false ∧ PySem.W.subIn K (.ref a_NothingToUndo) (.ref a_InvalidNetwork) = some false ∧ PySem.W.subIn K (.ref a_NothingToUndo) (.ref a_InvalidGrowth) = some false ∧ PySem.W.subIn K (.ref a_NothingToUndo) (.ref a_InvalidOperation) = some false ∧ PySem.W.subIn K (.ref a_NothingToUndo) (.ref a_InvalidText) = some false ∧ PySem.W.subIn K (.ref a_NothingToUndo) (.ref a_InvalidClaim) = some false ∧ PySem.W.subIn K (.ref a_NothingToUndo) (.ref a_ParseError) = some false ∧ PySem.W.subIn K (.ref a_NothingToUndo) (.ref a_RampError) = some false ∧ PySem.W.subIn K (.ref a_NothingToUndo) (.ref a_InvalidNumber) = some false ∧ PySem.W.subIn K (.ref a_NothingToUndo) (.ref a_UnknownName) = some false ∧ PySem.W.subIn K (.ref a_NothingToUndo) (.ref a_NothingToUndo) = some true)
    (xk_TooMany : PySem.W.findIn K (.ref a_TooMany) "__getattribute__" = some (some (.builtin "BaseException.__getattribute__")) ∧ PySem.W.findIn K (.ref a_TooMany) "__getattr__" = some none ∧ PySem.W.findIn K (.ref a_TooMany) "__class__" = some (some (.builtin "object.__class__")) ∧ PySem.W.mroIn K a_TooMany (.type "object") = some true)
    (rt_TooMany : PySem.W.subIn K (.ref a_TooMany) (.type "ValueError") = some false ∧ PySem.W.subIn K (.ref a_TooMany) (.type "IndexError") = some false ∧ PySem.W.subIn K (.ref a_TooMany) (.type "KeyError") = some false ∧ PySem.W.subIn K (.ref a_TooMany) (.type "OverflowError") = some true ∧ PySem.W.subIn K (.ref a_TooMany) (.type "ArithmeticError") = some true ∧ PySem.W.subIn K (.ref a_TooMany) (.type "LookupError") = some false ∧ PySem.W.subIn K (.ref a_TooMany) (.ref a_RampError) = some false)
    (sb_TooMany : PySem.W.subIn K (.ref a_TooMany) (.ref a_InvalidRow) = some false ∧ PySem.W.subIn K (.ref a_TooMany) (.ref a_InvalidLot) = some false ∧ PySem.W.subIn K (.ref a_TooMany) (.ref a_InvalidReading) = some false ∧ PySem.W.subIn K (.ref a_TooMany) (.ref a_InvalidNetwork) = some false ∧ PySem.W.subIn K (.ref a_TooMany) (.ref a_InvalidGrowth) = some false ∧ PySem.W.subIn K (.ref a_TooMany) (.ref a_InvalidOperation) = some false ∧ PySem.W.subIn K (.ref a_TooMany) (.ref a_InvalidText) = some false ∧ PySem.W.subIn K (.ref a_TooMany) (.ref a_InvalidClaim) = some false ∧ PySem.W.subIn K (.ref a_TooMany) (.ref a_ParseError) = some false ∧ PySem.W.subIn K (.ref a_TooMany) (.ref a_RampError) = some false ∧ PySem.W.subIn K (.ref a_TooMany) (.ref a_InvalidNumber) = some false ∧ PySem.W.subIn K (.ref a_TooMany) (.ref a_UnknownName) = some false ∧ PySem.W.subIn K (.ref a_TooMany) (.ref a_NothingToUndo) = some false ∧ PySem.W.subIn K (.ref a_TooMany) (.ref a_TooMany) = some true)
    (xk_Refused : PySem.W.findIn K (.ref a_Refused) "__getattribute__" = some (some (.builtin "BaseException.__getattribute__")) ∧ PySem.W.findIn K (.ref a_Refused) "__getattr__" = some none ∧ PySem.W.findIn K (.ref a_Refused) "__class__" = some (some (.builtin "object.__class__")) ∧ PySem.W.mroIn K a_Refused (.type "object") = some true)
    (rt_Refused : PySem.W.subIn K (.ref a_Refused) (.type "ValueError") = some false ∧ PySem.W.subIn K (.ref a_Refused) (.type "IndexError") = some false ∧ PySem.W.subIn K (.ref a_Refused) (.type "KeyError") = some false ∧ PySem.W.subIn K (.ref a_Refused) (.type "OverflowError") = some false ∧ PySem.W.subIn K (.ref a_Refused) (.type "ArithmeticError") = some true ∧ PySem.W.subIn K (.ref a_Refused) (.type "LookupError") = some false ∧ PySem.W.subIn K (.ref a_Refused) (.ref a_RampError) = some false)
    (sb_Refused : PySem.W.subIn K (.ref a_Refused) (.ref a_InvalidRow) = some false ∧ PySem.W.subIn K (.ref a_Refused) (.ref a_InvalidLot) = some false ∧ PySem.W.subIn K (.ref a_Refused) (.ref a_InvalidReading) = some false ∧ PySem.W.subIn K (.ref a_Refused) (.ref a_InvalidNetwork) = some false ∧ PySem.W.subIn K (.ref a_Refused) (.ref a_InvalidGrowth) = some false ∧ PySem.W.subIn K (.ref a_Refused) (.ref a_InvalidOperation) = some false ∧ PySem.W.subIn K (.ref a_Refused) (.ref a_InvalidText) = some false ∧ PySem.W.subIn K (.ref a_Refused) (.ref a_InvalidClaim) = some false ∧ PySem.W.subIn K (.ref a_Refused) (.ref a_ParseError) = some false ∧ PySem.W.subIn K (.ref a_Refused) (.ref a_RampError) = some false ∧ PySem.W.subIn K (.ref a_Refused) (.ref a_InvalidNumber) = some false ∧ PySem.W.subIn K (.ref a_Refused) (.ref a_UnknownName) = some false ∧ PySem.W.subIn K (.ref a_Refused) (.ref a_NothingToUndo) = some false ∧ PySem.W.subIn K (.ref a_Refused) (.ref a_TooMany) = some false ∧ PySem.W.subIn K (.ref a_Refused) (.ref a_Refused) = some true) : LamEndG l q w K 7 63 "script" mg fa := by
  have e := hfa.symm.trans (PySem.W.mg_of X G a__law)
  cases e
  have F_ParseErroru_initu := fun_mk (st := s_ParseErroru_initu) l__ParseErroru_initu c__ParseErroru_initu k__ParseErroru_initu
  have b_ParseErroru_initu := F_ParseErroru_initu.binds (ps := ["self", "spot"]) fun _ _ _ _ _ _ us hl => match us, hl with | [_, _], _ => rfl
  have F_InvalidNumberu_initu := fun_mk (st := s_InvalidNumberu_initu) l__InvalidNumberu_initu c__InvalidNumberu_initu k__InvalidNumberu_initu
  have b_InvalidNumberu_initu := F_InvalidNumberu_initu.binds (ps := ["self", "given"]) fun _ _ _ _ _ _ us hl => match us, hl with | [_, _], _ => rfl
  have F_UnknownNameu_initu := fun_mk (st := s_UnknownNameu_initu) l__UnknownNameu_initu c__UnknownNameu_initu k__UnknownNameu_initu
  have b_UnknownNameu_initu := F_UnknownNameu_initu.binds (ps := ["self", "wanted"]) fun _ _ _ _ _ _ us hl => match us, hl with | [_, _], _ => rfl
  have F_TooManyu_initu := fun_mk (st := s_TooManyu_initu) l__TooManyu_initu c__TooManyu_initu k__TooManyu_initu
  have b_TooManyu_initu := F_TooManyu_initu.binds (ps := ["self", "limit"]) fun _ _ _ _ _ _ us hl => match us, hl with | [_, _], _ => rfl
  have F_NothingToUndou_initu := fun_mk (st := s_NothingToUndou_initu) l__NothingToUndou_initu c__NothingToUndou_initu k__NothingToUndou_initu
  have b_NothingToUndou_initu := F_NothingToUndou_initu.binds (ps := ["self", "done"]) fun _ _ _ _ _ _ us hl => match us, hl with | [_, _], _ => rfl
  have F_Refusedu_initu := fun_mk (st := s_Refusedu_initu) l__Refusedu_initu c__Refusedu_initu k__Refusedu_initu
  have b_Refusedu_initu := F_Refusedu_initu.binds (ps := ["self", "reason"]) fun _ _ _ _ _ _ us hl => match us, hl with | [_, _], _ => rfl
  have F__law_pail := fun_mk (st := s__law_pail) l___law_pail c___law_pail k___law_pail
  have b__law_pail := F__law_pail.binds (ps := ["script", "spot"]) fun _ _ _ _ _ _ us hl => match us, hl with | [_, _], _ => rfl
  have F__law_scooped := fun_mk (st := s__law_scooped) l___law_scooped c___law_scooped k___law_scooped
  have b__law_scooped := F__law_scooped.binds (ps := ["pail", "total"]) fun _ _ _ _ _ _ us hl => match us, hl with | [_, _], _ => rfl
  have F__law_any_of := fun_mk (st := s__law_any_of) l___law_any_of c___law_any_of k___law_any_of
  have b__law_any_of := F__law_any_of.binds (ps := ["pail", "items"]) fun _ _ _ _ _ _ us hl => match us, hl with | [_, _], _ => rfl
  have F__law_raise := fun_mk (st := s__law_raise) l___law_raise c___law_raise k___law_raise
  have b__law_raise := F__law_raise.binds (ps := ["word", "value"]) fun _ _ _ _ _ _ us hl => match us, hl with | [_, _], _ => rfl
  have F__law_raise_kept := fun_mk (st := s__law_raise_kept) l___law_raise_kept c___law_raise_kept k___law_raise_kept
  have b__law_raise_kept := F__law_raise_kept.binds (ps := ["word", "value"]) fun _ _ _ _ _ _ us hl => match us, hl with | [_, _], _ => rfl
  have F__law_roots := fun_mk (st := s__law_roots) l___law_roots c___law_roots k___law_roots
  have b__law_roots := F__law_roots.binds (ps := ["error"]) fun _ _ _ _ _ _ us hl => match us, hl with | [_], _ => rfl
  have F__law_caught := fun_mk (st := s__law_caught) l___law_caught c___law_caught k___law_caught
  have b__law_caught := F__law_caught.binds (ps := ["word", "value"]) fun _ _ _ _ _ _ us hl => match us, hl with | [_, _], _ => rfl
  have F__law_right := fun_mk (st := s__law_right) l___law_right c___law_right k___law_right
  have b__law_right := F__law_right.binds (ps := ["pail"]) fun _ _ _ _ _ _ us hl => match us, hl with | [_], _ => rfl
  have F_law := fun_mk (st := s_law) l__law c__law k__law
  have b_law := F_law.binds (ps := ["script"]) fun _ _ _ _ _ _ us hl => match us, hl with | [_], _ => rfl
  let T : Txt K mg := { a_ParseErroru_initu := a_ParseErroru_initu, d_ParseErroru_initu := _, F_ParseErroru_initu := F_ParseErroru_initu, b_ParseErroru_initu := b_ParseErroru_initu, a_InvalidNumberu_initu := a_InvalidNumberu_initu, d_InvalidNumberu_initu := _, F_InvalidNumberu_initu := F_InvalidNumberu_initu, b_InvalidNumberu_initu := b_InvalidNumberu_initu, a_UnknownNameu_initu := a_UnknownNameu_initu, d_UnknownNameu_initu := _, F_UnknownNameu_initu := F_UnknownNameu_initu, b_UnknownNameu_initu := b_UnknownNameu_initu, a_TooManyu_initu := a_TooManyu_initu, d_TooManyu_initu := _, F_TooManyu_initu := F_TooManyu_initu, b_TooManyu_initu := b_TooManyu_initu, a_NothingToUndou_initu := a_NothingToUndou_initu, d_NothingToUndou_initu := _, F_NothingToUndou_initu := F_NothingToUndou_initu, b_NothingToUndou_initu := b_NothingToUndou_initu, a_Refusedu_initu := a_Refusedu_initu, d_Refusedu_initu := _, F_Refusedu_initu := F_Refusedu_initu, b_Refusedu_initu := b_Refusedu_initu, a__law_pail := a__law_pail, d__law_pail := _, F__law_pail := F__law_pail, b__law_pail := b__law_pail, m__law_pail := PySem.W.mg_of X G a___law_pail, k__law_pail := k___law_pail, a__law_scooped := a__law_scooped, d__law_scooped := _, F__law_scooped := F__law_scooped, b__law_scooped := b__law_scooped, m__law_scooped := PySem.W.mg_of X G a___law_scooped, k__law_scooped := k___law_scooped, a__law_any_of := a__law_any_of, d__law_any_of := _, F__law_any_of := F__law_any_of, b__law_any_of := b__law_any_of, m__law_any_of := PySem.W.mg_of X G a___law_any_of, k__law_any_of := k___law_any_of, a__law_raise := a__law_raise, d__law_raise := _, F__law_raise := F__law_raise, b__law_raise := b__law_raise, m__law_raise := PySem.W.mg_of X G a___law_raise, k__law_raise := k___law_raise, a__law_raise_kept := a__law_raise_kept, d__law_raise_kept := _, F__law_raise_kept := F__law_raise_kept, b__law_raise_kept := b__law_raise_kept, m__law_raise_kept := PySem.W.mg_of X G a___law_raise_kept, k__law_raise_kept := k___law_raise_kept, a__law_roots := a__law_roots, d__law_roots := _, F__law_roots := F__law_roots, b__law_roots := b__law_roots, m__law_roots := PySem.W.mg_of X G a___law_roots, k__law_roots := k___law_roots, a__law_caught := a__law_caught, d__law_caught := _, F__law_caught := F__law_caught, b__law_caught := b__law_caught, m__law_caught := PySem.W.mg_of X G a___law_caught, k__law_caught := k___law_caught, a__law_right := a__law_right, d__law_right := _, F__law_right := F__law_right, b__law_right := b__law_right, m__law_right := PySem.W.mg_of X G a___law_right, k__law_right := k___law_right, a_law := fa, d_law := _, F_law := F_law, b_law := b_law, n_isinstance := PySem.W.mg_none_of X G z_isinstance, n_len := PySem.W.mg_none_of X G z_len, n_max := PySem.W.mg_none_of X G z_max, n_min := PySem.W.mg_none_of X G z_min, n_abs := PySem.W.mg_none_of X G z_abs, n_range := PySem.W.mg_none_of X G z_range, n_sorted := PySem.W.mg_none_of X G z_sorted, n_repr := PySem.W.mg_none_of X G z_repr, n_int := PySem.W.mg_none_of X G z_int, n_ValueError := PySem.W.mg_none_of X G z_ValueError, n_IndexError := PySem.W.mg_none_of X G z_IndexError, n_KeyError := PySem.W.mg_none_of X G z_KeyError, n_OverflowError := PySem.W.mg_none_of X G z_OverflowError, n_ArithmeticError := PySem.W.mg_none_of X G z_ArithmeticError, n_LookupError := PySem.W.mg_none_of X G z_LookupError, a_InvalidRow := a_InvalidRow, m_InvalidRow := PySem.W.mg_of X G n_InvalidRow, k_InvalidRow := k_InvalidRow, be_InvalidRow := be_InvalidRow, ty_InvalidRow := ty_InvalidRow, x_InvalidRow := x_InvalidRow, a_InvalidLot := a_InvalidLot, m_InvalidLot := PySem.W.mg_of X G n_InvalidLot, k_InvalidLot := k_InvalidLot, be_InvalidLot := be_InvalidLot, ty_InvalidLot := ty_InvalidLot, x_InvalidLot := x_InvalidLot, a_InvalidReading := a_InvalidReading, m_InvalidReading := PySem.W.mg_of X G n_InvalidReading, k_InvalidReading := k_InvalidReading, be_InvalidReading := be_InvalidReading, ty_InvalidReading := ty_InvalidReading, x_InvalidReading := x_InvalidReading, a_InvalidNetwork := a_InvalidNetwork, m_InvalidNetwork := PySem.W.mg_of X G n_InvalidNetwork, k_InvalidNetwork := k_InvalidNetwork, be_InvalidNetwork := be_InvalidNetwork, ty_InvalidNetwork := ty_InvalidNetwork, x_InvalidNetwork := x_InvalidNetwork, a_InvalidGrowth := a_InvalidGrowth, m_InvalidGrowth := PySem.W.mg_of X G n_InvalidGrowth, k_InvalidGrowth := k_InvalidGrowth, be_InvalidGrowth := be_InvalidGrowth, ty_InvalidGrowth := ty_InvalidGrowth, x_InvalidGrowth := x_InvalidGrowth, a_InvalidOperation := a_InvalidOperation, m_InvalidOperation := PySem.W.mg_of X G n_InvalidOperation, k_InvalidOperation := k_InvalidOperation, be_InvalidOperation := be_InvalidOperation, ty_InvalidOperation := ty_InvalidOperation, x_InvalidOperation := x_InvalidOperation, a_InvalidText := a_InvalidText, m_InvalidText := PySem.W.mg_of X G n_InvalidText, k_InvalidText := k_InvalidText, be_InvalidText := be_InvalidText, ty_InvalidText := ty_InvalidText, x_InvalidText := x_InvalidText, a_InvalidClaim := a_InvalidClaim, m_InvalidClaim := PySem.W.mg_of X G n_InvalidClaim, k_InvalidClaim := k_InvalidClaim, be_InvalidClaim := be_InvalidClaim, ty_InvalidClaim := ty_InvalidClaim, x_InvalidClaim := x_InvalidClaim, a_ParseError := a_ParseError, m_ParseError := PySem.W.mg_of X G n_ParseError, k_ParseError := k_ParseError, be_ParseError := be_ParseError, ty_ParseError := ty_ParseError, ox_ParseError := ⟨ol_ParseError, os_ParseError, be_ParseError, ty_ParseError, k_ParseError⟩, oi_ParseError := a__ParseErroru_initu, ot_ParseError := ot_ParseError, nf_ParseError := nf_ParseError, xf_ParseError := ⟨ga_ParseError, gg_ParseError, be_ParseError, hc_ParseError⟩, a_RampError := a_RampError, m_RampError := PySem.W.mg_of X G n_RampError, k_RampError := k_RampError, be_RampError := be_RampError, ty_RampError := ty_RampError, x_RampError := x_RampError, a_InvalidNumber := a_InvalidNumber, m_InvalidNumber := PySem.W.mg_of X G n_InvalidNumber, k_InvalidNumber := k_InvalidNumber, be_InvalidNumber := be_InvalidNumber, ty_InvalidNumber := ty_InvalidNumber, ox_InvalidNumber := ⟨⟨"IndexError", "IndexError.__new__", _, ⟨PySem.RWx.newf_of PySem.F.excBase_IndexError, PySem.F.store_IndexError, by decide +kernel⟩, ol_InvalidNumber⟩, os_InvalidNumber, be_InvalidNumber, ty_InvalidNumber, k_InvalidNumber⟩, oi_InvalidNumber := a__InvalidNumberu_initu, ot_InvalidNumber := ot_InvalidNumber, nf_InvalidNumber := nf_InvalidNumber, xf_InvalidNumber := ⟨ga_InvalidNumber, gg_InvalidNumber, be_InvalidNumber, hc_InvalidNumber⟩, a_UnknownName := a_UnknownName, m_UnknownName := PySem.W.mg_of X G n_UnknownName, k_UnknownName := k_UnknownName, be_UnknownName := be_UnknownName, ty_UnknownName := ty_UnknownName, ox_UnknownName := ⟨⟨"KeyError", "LookupError.__new__", _, ⟨PySem.RWx.newf_key, PySem.RWx.store_KeyError, by decide +kernel⟩, ol_UnknownName⟩, os_UnknownName, be_UnknownName, ty_UnknownName, k_UnknownName⟩, oi_UnknownName := a__UnknownNameu_initu, ot_UnknownName := ot_UnknownName, nf_UnknownName := nf_UnknownName, xf_UnknownName := ⟨ga_UnknownName, gg_UnknownName, be_UnknownName, hc_UnknownName⟩, a_NothingToUndo := a_NothingToUndo, m_NothingToUndo := PySem.W.mg_of X G n_NothingToUndo, k_NothingToUndo := k_NothingToUndo, be_NothingToUndo := be_NothingToUndo, ty_NothingToUndo := ty_NothingToUndo, ox_NothingToUndo := ⟨⟨"LookupError", "LookupError.__new__", _, ⟨PySem.RWx.newf_of PySem.F.excBase_LookupError, PySem.F.store_LookupError, by decide +kernel⟩, ol_NothingToUndo⟩, os_NothingToUndo, be_NothingToUndo, ty_NothingToUndo, k_NothingToUndo⟩, oi_NothingToUndo := a__NothingToUndou_initu, ot_NothingToUndo := ot_NothingToUndo, nf_NothingToUndo := nf_NothingToUndo, xf_NothingToUndo := ⟨ga_NothingToUndo, gg_NothingToUndo, be_NothingToUndo, hc_NothingToUndo⟩, a_TooMany := a_TooMany, m_TooMany := PySem.W.mg_of X G n_TooMany, k_TooMany := k_TooMany, be_TooMany := be_TooMany, ty_TooMany := ty_TooMany, ox_TooMany := ⟨⟨"OverflowError", "OverflowError.__new__", _, ⟨PySem.RWx.newf_of PySem.F.excBase_OverflowError, PySem.F.store_OverflowError, by decide +kernel⟩, ol_TooMany⟩, os_TooMany, be_TooMany, ty_TooMany, k_TooMany⟩, oi_TooMany := a__TooManyu_initu, ot_TooMany := ot_TooMany, nf_TooMany := nf_TooMany, xf_TooMany := ⟨ga_TooMany, gg_TooMany, be_TooMany, hc_TooMany⟩, a_Refused := a_Refused, m_Refused := PySem.W.mg_of X G n_Refused, k_Refused := k_Refused, be_Refused := be_Refused, ty_Refused := ty_Refused, ox_Refused := ⟨⟨"ArithmeticError", "ArithmeticError.__new__", _, ⟨PySem.RWx.newf_of PySem.F.excBase_ArithmeticError, PySem.F.store_ArithmeticError, by decide +kernel⟩, ol_Refused⟩, os_Refused, be_Refused, ty_Refused, k_Refused⟩, oi_Refused := a__Refusedu_initu, ot_Refused := ot_Refused, nf_Refused := nf_Refused, xf_Refused := ⟨ga_Refused, gg_Refused, be_Refused, hc_Refused⟩, xk_InvalidRow := ⟨ic_InvalidRow, xk_InvalidRow.1, xk_InvalidRow.2.1, be_InvalidRow, xk_InvalidRow.2.2.1, cn_, ct_, xk_InvalidRow.2.2.2⟩, rt_InvalidRow := ⟨⟨_, _, _, _, _, _, _, rfl, kit1_ty (by decide +kernel) rt_InvalidRow.1, kit1_ty (by decide +kernel) rt_InvalidRow.2.1, kit1_ty (by decide +kernel) rt_InvalidRow.2.2.1, kit1_ty (by decide +kernel) rt_InvalidRow.2.2.2.1, kit1_ty (by decide +kernel) rt_InvalidRow.2.2.2.2.1, kit1_ty (by decide +kernel) rt_InvalidRow.2.2.2.2.2.1, kit1_own ic_RampError ty_RampError rt_InvalidRow.2.2.2.2.2.2 (fun z => rfl)⟩⟩, em_InvalidRow := trivial, es_InvalidRow := RW.exm_of be_InvalidRow ic_InvalidRow ty_InvalidRow sb_InvalidRow, xk_InvalidLot := ⟨ic_InvalidLot, xk_InvalidLot.1, xk_InvalidLot.2.1, be_InvalidLot, xk_InvalidLot.2.2.1, cn_, ct_, xk_InvalidLot.2.2.2⟩, rt_InvalidLot := ⟨⟨_, _, _, _, _, _, _, rfl, kit1_ty (by decide +kernel) rt_InvalidLot.1, kit1_ty (by decide +kernel) rt_InvalidLot.2.1, kit1_ty (by decide +kernel) rt_InvalidLot.2.2.1, kit1_ty (by decide +kernel) rt_InvalidLot.2.2.2.1, kit1_ty (by decide +kernel) rt_InvalidLot.2.2.2.2.1, kit1_ty (by decide +kernel) rt_InvalidLot.2.2.2.2.2.1, kit1_own ic_RampError ty_RampError rt_InvalidLot.2.2.2.2.2.2 (fun z => rfl)⟩⟩, em_InvalidLot := ⟨RW.exm_of be_InvalidRow ic_InvalidRow ty_InvalidRow sb_InvalidLot.1, trivial⟩, es_InvalidLot := RW.exm_of be_InvalidLot ic_InvalidLot ty_InvalidLot sb_InvalidLot.2, xk_InvalidReading := ⟨ic_InvalidReading, xk_InvalidReading.1, xk_InvalidReading.2.1, be_InvalidReading, xk_InvalidReading.2.2.1, cn_, ct_, xk_InvalidReading.2.2.2⟩, rt_InvalidReading := ⟨⟨_, _, _, _, _, _, _, rfl, kit1_ty (by decide +kernel) rt_InvalidReading.1, kit1_ty (by decide +kernel) rt_InvalidReading.2.1, kit1_ty (by decide +kernel) rt_InvalidReading.2.2.1, kit1_ty (by decide +kernel) rt_InvalidReading.2.2.2.1, kit1_ty (by decide +kernel) rt_InvalidReading.2.2.2.2.1, kit1_ty (by decide +kernel) rt_InvalidReading.2.2.2.2.2.1, kit1_own ic_RampError ty_RampError rt_InvalidReading.2.2.2.2.2.2 (fun z => rfl)⟩⟩, em_InvalidReading := ⟨RW.exm_of be_InvalidRow ic_InvalidRow ty_InvalidRow sb_InvalidReading.1, RW.exm_of be_InvalidLot ic_InvalidLot ty_InvalidLot sb_InvalidReading.2.1, trivial⟩, es_InvalidReading := RW.exm_of be_InvalidReading ic_InvalidReading ty_InvalidReading sb_InvalidReading.2.2, xk_InvalidNetwork := ⟨ic_InvalidNetwork, xk_InvalidNetwork.1, xk_InvalidNetwork.2.1, be_InvalidNetwork, xk_InvalidNetwork.2.2.1, cn_, ct_, xk_InvalidNetwork.2.2.2⟩, rt_InvalidNetwork := ⟨⟨_, _, _, _, _, _, _, rfl, kit1_ty (by decide +kernel) rt_InvalidNetwork.1, kit1_ty (by decide +kernel) rt_InvalidNetwork.2.1, kit1_ty (by decide +kernel) rt_InvalidNetwork.2.2.1, kit1_ty (by decide +kernel) rt_InvalidNetwork.2.2.2.1, kit1_ty (by decide +kernel) rt_InvalidNetwork.2.2.2.2.1, kit1_ty (by decide +kernel) rt_InvalidNetwork.2.2.2.2.2.1, kit1_own ic_RampError ty_RampError rt_InvalidNetwork.2.2.2.2.2.2 (fun z => rfl)⟩⟩, em_InvalidNetwork := ⟨RW.exm_of be_InvalidRow ic_InvalidRow ty_InvalidRow sb_InvalidNetwork.1, RW.exm_of be_InvalidLot ic_InvalidLot ty_InvalidLot sb_InvalidNetwork.2.1, RW.exm_of be_InvalidReading ic_InvalidReading ty_InvalidReading sb_InvalidNetwork.2.2.1, trivial⟩, es_InvalidNetwork := RW.exm_of be_InvalidNetwork ic_InvalidNetwork ty_InvalidNetwork sb_InvalidNetwork.2.2.2, xk_InvalidGrowth := ⟨ic_InvalidGrowth, xk_InvalidGrowth.1, xk_InvalidGrowth.2.1, be_InvalidGrowth, xk_InvalidGrowth.2.2.1, cn_, ct_, xk_InvalidGrowth.2.2.2⟩, rt_InvalidGrowth := ⟨⟨_, _, _, _, _, _, _, rfl, kit1_ty (by decide +kernel) rt_InvalidGrowth.1, kit1_ty (by decide +kernel) rt_InvalidGrowth.2.1, kit1_ty (by decide +kernel) rt_InvalidGrowth.2.2.1, kit1_ty (by decide +kernel) rt_InvalidGrowth.2.2.2.1, kit1_ty (by decide +kernel) rt_InvalidGrowth.2.2.2.2.1, kit1_ty (by decide +kernel) rt_InvalidGrowth.2.2.2.2.2.1, kit1_own ic_RampError ty_RampError rt_InvalidGrowth.2.2.2.2.2.2 (fun z => rfl)⟩⟩, em_InvalidGrowth := ⟨RW.exm_of be_InvalidRow ic_InvalidRow ty_InvalidRow sb_InvalidGrowth.1, RW.exm_of be_InvalidLot ic_InvalidLot ty_InvalidLot sb_InvalidGrowth.2.1, RW.exm_of be_InvalidReading ic_InvalidReading ty_InvalidReading sb_InvalidGrowth.2.2.1, RW.exm_of be_InvalidNetwork ic_InvalidNetwork ty_InvalidNetwork sb_InvalidGrowth.2.2.2.1, trivial⟩, es_InvalidGrowth := RW.exm_of be_InvalidGrowth ic_InvalidGrowth ty_InvalidGrowth sb_InvalidGrowth.2.2.2.2, xk_InvalidOperation := ⟨ic_InvalidOperation, xk_InvalidOperation.1, xk_InvalidOperation.2.1, be_InvalidOperation, xk_InvalidOperation.2.2.1, cn_, ct_, xk_InvalidOperation.2.2.2⟩, rt_InvalidOperation := ⟨⟨_, _, _, _, _, _, _, rfl, kit1_ty (by decide +kernel) rt_InvalidOperation.1, kit1_ty (by decide +kernel) rt_InvalidOperation.2.1, kit1_ty (by decide +kernel) rt_InvalidOperation.2.2.1, kit1_ty (by decide +kernel) rt_InvalidOperation.2.2.2.1, kit1_ty (by decide +kernel) rt_InvalidOperation.2.2.2.2.1, kit1_ty (by decide +kernel) rt_InvalidOperation.2.2.2.2.2.1, kit1_own ic_RampError ty_RampError rt_InvalidOperation.2.2.2.2.2.2 (fun z => rfl)⟩⟩, em_InvalidOperation := ⟨RW.exm_of be_InvalidRow ic_InvalidRow ty_InvalidRow sb_InvalidOperation.1, RW.exm_of be_InvalidLot ic_InvalidLot ty_InvalidLot sb_InvalidOperation.2.1, RW.exm_of be_InvalidReading ic_InvalidReading ty_InvalidReading sb_InvalidOperation.2.2.1, RW.exm_of be_InvalidNetwork ic_InvalidNetwork ty_InvalidNetwork sb_InvalidOperation.2.2.2.1, RW.exm_of be_InvalidGrowth ic_InvalidGrowth ty_InvalidGrowth sb_InvalidOperation.2.2.2.2.1, trivial⟩, es_InvalidOperation := RW.exm_of be_InvalidOperation ic_InvalidOperation ty_InvalidOperation sb_InvalidOperation.2.2.2.2.2, xk_InvalidText := ⟨ic_InvalidText, xk_InvalidText.1, xk_InvalidText.2.1, be_InvalidText, xk_InvalidText.2.2.1, cn_, ct_, xk_InvalidText.2.2.2⟩, rt_InvalidText := ⟨⟨_, _, _, _, _, _, _, rfl, kit1_ty (by decide +kernel) rt_InvalidText.1, kit1_ty (by decide +kernel) rt_InvalidText.2.1, kit1_ty (by decide +kernel) rt_InvalidText.2.2.1, kit1_ty (by decide +kernel) rt_InvalidText.2.2.2.1, kit1_ty (by decide +kernel) rt_InvalidText.2.2.2.2.1, kit1_ty (by decide +kernel) rt_InvalidText.2.2.2.2.2.1, kit1_own ic_RampError ty_RampError rt_InvalidText.2.2.2.2.2.2 (fun z => rfl)⟩⟩, em_InvalidText := ⟨RW.exm_of be_InvalidRow ic_InvalidRow ty_InvalidRow sb_InvalidText.1, RW.exm_of be_InvalidLot ic_InvalidLot ty_InvalidLot sb_InvalidText.2.1, RW.exm_of be_InvalidReading ic_InvalidReading ty_InvalidReading sb_InvalidText.2.2.1, RW.exm_of be_InvalidNetwork ic_InvalidNetwork ty_InvalidNetwork sb_InvalidText.2.2.2.1, RW.exm_of be_InvalidGrowth ic_InvalidGrowth ty_InvalidGrowth sb_InvalidText.2.2.2.2.1, RW.exm_of be_InvalidOperation ic_InvalidOperation ty_InvalidOperation sb_InvalidText.2.2.2.2.2.1, trivial⟩, es_InvalidText := RW.exm_of be_InvalidText ic_InvalidText ty_InvalidText sb_InvalidText.2.2.2.2.2.2, xk_InvalidClaim := ⟨ic_InvalidClaim, xk_InvalidClaim.1, xk_InvalidClaim.2.1, be_InvalidClaim, xk_InvalidClaim.2.2.1, cn_, ct_, xk_InvalidClaim.2.2.2⟩, rt_InvalidClaim := ⟨⟨_, _, _, _, _, _, _, rfl, kit1_ty (by decide +kernel) rt_InvalidClaim.1, kit1_ty (by decide +kernel) rt_InvalidClaim.2.1, kit1_ty (by decide +kernel) rt_InvalidClaim.2.2.1, kit1_ty (by decide +kernel) rt_InvalidClaim.2.2.2.1, kit1_ty (by decide +kernel) rt_InvalidClaim.2.2.2.2.1, kit1_ty (by decide +kernel) rt_InvalidClaim.2.2.2.2.2.1, kit1_own ic_RampError ty_RampError rt_InvalidClaim.2.2.2.2.2.2 (fun z => rfl)⟩⟩, em_InvalidClaim := ⟨RW.exm_of be_InvalidRow ic_InvalidRow ty_InvalidRow sb_InvalidClaim.1, RW.exm_of be_InvalidLot ic_InvalidLot ty_InvalidLot sb_InvalidClaim.2.1, RW.exm_of be_InvalidReading ic_InvalidReading ty_InvalidReading sb_InvalidClaim.2.2.1, RW.exm_of be_InvalidNetwork ic_InvalidNetwork ty_InvalidNetwork sb_InvalidClaim.2.2.2.1, RW.exm_of be_InvalidGrowth ic_InvalidGrowth ty_InvalidGrowth sb_InvalidClaim.2.2.2.2.1, RW.exm_of be_InvalidOperation ic_InvalidOperation ty_InvalidOperation sb_InvalidClaim.2.2.2.2.2.1, RW.exm_of be_InvalidText ic_InvalidText ty_InvalidText sb_InvalidClaim.2.2.2.2.2.2.1, trivial⟩, es_InvalidClaim := RW.exm_of be_InvalidClaim ic_InvalidClaim ty_InvalidClaim sb_InvalidClaim.2.2.2.2.2.2.2, xk_ParseError := ⟨ic_ParseError, xk_ParseError.1, xk_ParseError.2.1, be_ParseError, xk_ParseError.2.2.1, cn_, ct_, xk_ParseError.2.2.2⟩, rt_ParseError := ⟨⟨_, _, _, _, _, _, _, rfl, kit1_ty (by decide +kernel) rt_ParseError.1, kit1_ty (by decide +kernel) rt_ParseError.2.1, kit1_ty (by decide +kernel) rt_ParseError.2.2.1, kit1_ty (by decide +kernel) rt_ParseError.2.2.2.1, kit1_ty (by decide +kernel) rt_ParseError.2.2.2.2.1, kit1_ty (by decide +kernel) rt_ParseError.2.2.2.2.2.1, kit1_own ic_RampError ty_RampError rt_ParseError.2.2.2.2.2.2 (fun z => rfl)⟩⟩, em_ParseError := ⟨RW.exm_of be_InvalidRow ic_InvalidRow ty_InvalidRow sb_ParseError.1, RW.exm_of be_InvalidLot ic_InvalidLot ty_InvalidLot sb_ParseError.2.1, RW.exm_of be_InvalidReading ic_InvalidReading ty_InvalidReading sb_ParseError.2.2.1, RW.exm_of be_InvalidNetwork ic_InvalidNetwork ty_InvalidNetwork sb_ParseError.2.2.2.1, RW.exm_of be_InvalidGrowth ic_InvalidGrowth ty_InvalidGrowth sb_ParseError.2.2.2.2.1, RW.exm_of be_InvalidOperation ic_InvalidOperation ty_InvalidOperation sb_ParseError.2.2.2.2.2.1, RW.exm_of be_InvalidText ic_InvalidText ty_InvalidText sb_ParseError.2.2.2.2.2.2.1, RW.exm_of be_InvalidClaim ic_InvalidClaim ty_InvalidClaim sb_ParseError.2.2.2.2.2.2.2.1, trivial⟩, es_ParseError := RW.exm_of be_ParseError ic_ParseError ty_ParseError sb_ParseError.2.2.2.2.2.2.2.2, xk_RampError := ⟨ic_RampError, xk_RampError.1, xk_RampError.2.1, be_RampError, xk_RampError.2.2.1, cn_, ct_, xk_RampError.2.2.2⟩, rt_RampError := ⟨⟨_, _, _, _, _, _, _, rfl, kit1_ty (by decide +kernel) rt_RampError.1, kit1_ty (by decide +kernel) rt_RampError.2.1, kit1_ty (by decide +kernel) rt_RampError.2.2.1, kit1_ty (by decide +kernel) rt_RampError.2.2.2.1, kit1_ty (by decide +kernel) rt_RampError.2.2.2.2.1, kit1_ty (by decide +kernel) rt_RampError.2.2.2.2.2.1, kit1_own ic_RampError ty_RampError rt_RampError.2.2.2.2.2.2 (fun z => rfl)⟩⟩, em_RampError := ⟨RW.exm_of be_InvalidRow ic_InvalidRow ty_InvalidRow sb_RampError.1, RW.exm_of be_InvalidLot ic_InvalidLot ty_InvalidLot sb_RampError.2.1, RW.exm_of be_InvalidReading ic_InvalidReading ty_InvalidReading sb_RampError.2.2.1, RW.exm_of be_InvalidNetwork ic_InvalidNetwork ty_InvalidNetwork sb_RampError.2.2.2.1, RW.exm_of be_InvalidGrowth ic_InvalidGrowth ty_InvalidGrowth sb_RampError.2.2.2.2.1, RW.exm_of be_InvalidOperation ic_InvalidOperation ty_InvalidOperation sb_RampError.2.2.2.2.2.1, RW.exm_of be_InvalidText ic_InvalidText ty_InvalidText sb_RampError.2.2.2.2.2.2.1, RW.exm_of be_InvalidClaim ic_InvalidClaim ty_InvalidClaim sb_RampError.2.2.2.2.2.2.2.1, RW.exm_of be_ParseError ic_ParseError ty_ParseError sb_RampError.2.2.2.2.2.2.2.2.1, trivial⟩, es_RampError := RW.exm_of be_RampError ic_RampError ty_RampError sb_RampError.2.2.2.2.2.2.2.2.2, xk_InvalidNumber := ⟨ic_InvalidNumber, xk_InvalidNumber.1, xk_InvalidNumber.2.1, be_InvalidNumber, xk_InvalidNumber.2.2.1, cn_, ct_, xk_InvalidNumber.2.2.2⟩, rt_InvalidNumber := ⟨⟨_, _, _, _, _, _, _, rfl, kit1_ty (by decide +kernel) rt_InvalidNumber.1, kit1_ty (by decide +kernel) rt_InvalidNumber.2.1, kit1_ty (by decide +kernel) rt_InvalidNumber.2.2.1, kit1_ty (by decide +kernel) rt_InvalidNumber.2.2.2.1, kit1_ty (by decide +kernel) rt_InvalidNumber.2.2.2.2.1, kit1_ty (by decide +kernel) rt_InvalidNumber.2.2.2.2.2.1, kit1_own ic_RampError ty_RampError rt_InvalidNumber.2.2.2.2.2.2 (fun z => by have h := rt_InvalidNumber.2.2.2.2.2.2; rw [← z, sb_InvalidNumber.2.2.2.2.2.2.2.2.2.2] at h; cases h)⟩⟩, em_InvalidNumber := ⟨RW.exm_of be_InvalidRow ic_InvalidRow ty_InvalidRow sb_InvalidNumber.1, RW.exm_of be_InvalidLot ic_InvalidLot ty_InvalidLot sb_InvalidNumber.2.1, RW.exm_of be_InvalidReading ic_InvalidReading ty_InvalidReading sb_InvalidNumber.2.2.1, RW.exm_of be_InvalidNetwork ic_InvalidNetwork ty_InvalidNetwork sb_InvalidNumber.2.2.2.1, RW.exm_of be_InvalidGrowth ic_InvalidGrowth ty_InvalidGrowth sb_InvalidNumber.2.2.2.2.1, RW.exm_of be_InvalidOperation ic_InvalidOperation ty_InvalidOperation sb_InvalidNumber.2.2.2.2.2.1, RW.exm_of be_InvalidText ic_InvalidText ty_InvalidText sb_InvalidNumber.2.2.2.2.2.2.1, RW.exm_of be_InvalidClaim ic_InvalidClaim ty_InvalidClaim sb_InvalidNumber.2.2.2.2.2.2.2.1, RW.exm_of be_ParseError ic_ParseError ty_ParseError sb_InvalidNumber.2.2.2.2.2.2.2.2.1, RW.exm_of be_RampError ic_RampError ty_RampError sb_InvalidNumber.2.2.2.2.2.2.2.2.2.1, trivial⟩, es_InvalidNumber := RW.exm_of be_InvalidNumber ic_InvalidNumber ty_InvalidNumber sb_InvalidNumber.2.2.2.2.2.2.2.2.2.2, xk_UnknownName := ⟨ic_UnknownName, xk_UnknownName.1, xk_UnknownName.2.1, be_UnknownName, xk_UnknownName.2.2.1, cn_, ct_, xk_UnknownName.2.2.2⟩, rt_UnknownName := ⟨⟨_, _, _, _, _, _, _, rfl, kit1_ty (by decide +kernel) rt_UnknownName.1, kit1_ty (by decide +kernel) rt_UnknownName.2.1, kit1_ty (by decide +kernel) rt_UnknownName.2.2.1, kit1_ty (by decide +kernel) rt_UnknownName.2.2.2.1, kit1_ty (by decide +kernel) rt_UnknownName.2.2.2.2.1, kit1_ty (by decide +kernel) rt_UnknownName.2.2.2.2.2.1, kit1_own ic_RampError ty_RampError rt_UnknownName.2.2.2.2.2.2 (fun z => by have h := rt_UnknownName.2.2.2.2.2.2; rw [← z, sb_UnknownName.2.2.2.2.2.2.2.2.2.2.2] at h; cases h)⟩⟩, em_UnknownName := ⟨RW.exm_of be_InvalidRow ic_InvalidRow ty_InvalidRow sb_UnknownName.1, RW.exm_of be_InvalidLot ic_InvalidLot ty_InvalidLot sb_UnknownName.2.1, RW.exm_of be_InvalidReading ic_InvalidReading ty_InvalidReading sb_UnknownName.2.2.1, RW.exm_of be_InvalidNetwork ic_InvalidNetwork ty_InvalidNetwork sb_UnknownName.2.2.2.1, RW.exm_of be_InvalidGrowth ic_InvalidGrowth ty_InvalidGrowth sb_UnknownName.2.2.2.2.1, RW.exm_of be_InvalidOperation ic_InvalidOperation ty_InvalidOperation sb_UnknownName.2.2.2.2.2.1, RW.exm_of be_InvalidText ic_InvalidText ty_InvalidText sb_UnknownName.2.2.2.2.2.2.1, RW.exm_of be_InvalidClaim ic_InvalidClaim ty_InvalidClaim sb_UnknownName.2.2.2.2.2.2.2.1, RW.exm_of be_ParseError ic_ParseError ty_ParseError sb_UnknownName.2.2.2.2.2.2.2.2.1, RW.exm_of be_RampError ic_RampError ty_RampError sb_UnknownName.2.2.2.2.2.2.2.2.2.1, RW.exm_of be_InvalidNumber ic_InvalidNumber ty_InvalidNumber sb_UnknownName.2.2.2.2.2.2.2.2.2.2.1, trivial⟩, es_UnknownName := RW.exm_of be_UnknownName ic_UnknownName ty_UnknownName sb_UnknownName.2.2.2.2.2.2.2.2.2.2.2, xk_NothingToUndo := ⟨ic_NothingToUndo, xk_NothingToUndo.1, xk_NothingToUndo.2.1, be_NothingToUndo, xk_NothingToUndo.2.2.1, cn_, ct_, xk_NothingToUndo.2.2.2⟩, rt_NothingToUndo := ⟨⟨_, _, _, _, _, _, _, rfl, kit1_ty (by decide +kernel) rt_NothingToUndo.1, kit1_ty (by decide +kernel) rt_NothingToUndo.2.1, kit1_ty (by decide +kernel) rt_NothingToUndo.2.2.1, kit1_ty (by decide +kernel) rt_NothingToUndo.2.2.2.1, kit1_ty (by decide +kernel) rt_NothingToUndo.2.2.2.2.1, kit1_ty (by decide +kernel) rt_NothingToUndo.2.2.2.2.2.1, kit1_own ic_RampError ty_RampError rt_NothingToUndo.2.2.2.2.2.2 (fun z => by have h := rt_NothingToUndo.2.2.2.2.2.2; rw [← z, sb_NothingToUndo.2.2.2.2.2.2.2.2.2.2.2.2] at h; cases h)⟩⟩, em_NothingToUndo := ⟨RW.exm_of be_InvalidRow ic_InvalidRow ty_InvalidRow sb_NothingToUndo.1, RW.exm_of be_InvalidLot ic_InvalidLot ty_InvalidLot sb_NothingToUndo.2.1, RW.exm_of be_InvalidReading ic_InvalidReading ty_InvalidReading sb_NothingToUndo.2.2.1, RW.exm_of be_InvalidNetwork ic_InvalidNetwork ty_InvalidNetwork sb_NothingToUndo.2.2.2.1, RW.exm_of be_InvalidGrowth ic_InvalidGrowth ty_InvalidGrowth sb_NothingToUndo.2.2.2.2.1, RW.exm_of be_InvalidOperation ic_InvalidOperation ty_InvalidOperation sb_NothingToUndo.2.2.2.2.2.1, RW.exm_of be_InvalidText ic_InvalidText ty_InvalidText sb_NothingToUndo.2.2.2.2.2.2.1, RW.exm_of be_InvalidClaim ic_InvalidClaim ty_InvalidClaim sb_NothingToUndo.2.2.2.2.2.2.2.1, RW.exm_of be_ParseError ic_ParseError ty_ParseError sb_NothingToUndo.2.2.2.2.2.2.2.2.1, RW.exm_of be_RampError ic_RampError ty_RampError sb_NothingToUndo.2.2.2.2.2.2.2.2.2.1, RW.exm_of be_InvalidNumber ic_InvalidNumber ty_InvalidNumber sb_NothingToUndo.2.2.2.2.2.2.2.2.2.2.1, RW.exm_of be_UnknownName ic_UnknownName ty_UnknownName sb_NothingToUndo.2.2.2.2.2.2.2.2.2.2.2.1, trivial⟩, es_NothingToUndo := RW.exm_of be_NothingToUndo ic_NothingToUndo ty_NothingToUndo sb_NothingToUndo.2.2.2.2.2.2.2.2.2.2.2.2, xk_TooMany := ⟨ic_TooMany, xk_TooMany.1, xk_TooMany.2.1, be_TooMany, xk_TooMany.2.2.1, cn_, ct_, xk_TooMany.2.2.2⟩, rt_TooMany := ⟨⟨_, _, _, _, _, _, _, rfl, kit1_ty (by decide +kernel) rt_TooMany.1, kit1_ty (by decide +kernel) rt_TooMany.2.1, kit1_ty (by decide +kernel) rt_TooMany.2.2.1, kit1_ty (by decide +kernel) rt_TooMany.2.2.2.1, kit1_ty (by decide +kernel) rt_TooMany.2.2.2.2.1, kit1_ty (by decide +kernel) rt_TooMany.2.2.2.2.2.1, kit1_own ic_RampError ty_RampError rt_TooMany.2.2.2.2.2.2 (fun z => by have h := rt_TooMany.2.2.2.2.2.2; rw [← z, sb_TooMany.2.2.2.2.2.2.2.2.2.2.2.2.2] at h; cases h)⟩⟩, em_TooMany := ⟨RW.exm_of be_InvalidRow ic_InvalidRow ty_InvalidRow sb_TooMany.1, RW.exm_of be_InvalidLot ic_InvalidLot ty_InvalidLot sb_TooMany.2.1, RW.exm_of be_InvalidReading ic_InvalidReading ty_InvalidReading sb_TooMany.2.2.1, RW.exm_of be_InvalidNetwork ic_InvalidNetwork ty_InvalidNetwork sb_TooMany.2.2.2.1, RW.exm_of be_InvalidGrowth ic_InvalidGrowth ty_InvalidGrowth sb_TooMany.2.2.2.2.1, RW.exm_of be_InvalidOperation ic_InvalidOperation ty_InvalidOperation sb_TooMany.2.2.2.2.2.1, RW.exm_of be_InvalidText ic_InvalidText ty_InvalidText sb_TooMany.2.2.2.2.2.2.1, RW.exm_of be_InvalidClaim ic_InvalidClaim ty_InvalidClaim sb_TooMany.2.2.2.2.2.2.2.1, RW.exm_of be_ParseError ic_ParseError ty_ParseError sb_TooMany.2.2.2.2.2.2.2.2.1, RW.exm_of be_RampError ic_RampError ty_RampError sb_TooMany.2.2.2.2.2.2.2.2.2.1, RW.exm_of be_InvalidNumber ic_InvalidNumber ty_InvalidNumber sb_TooMany.2.2.2.2.2.2.2.2.2.2.1, RW.exm_of be_UnknownName ic_UnknownName ty_UnknownName sb_TooMany.2.2.2.2.2.2.2.2.2.2.2.1, RW.exm_of be_NothingToUndo ic_NothingToUndo ty_NothingToUndo sb_TooMany.2.2.2.2.2.2.2.2.2.2.2.2.1, trivial⟩, es_TooMany := RW.exm_of be_TooMany ic_TooMany ty_TooMany sb_TooMany.2.2.2.2.2.2.2.2.2.2.2.2.2, xk_Refused := ⟨ic_Refused, xk_Refused.1, xk_Refused.2.1, be_Refused, xk_Refused.2.2.1, cn_, ct_, xk_Refused.2.2.2⟩, rt_Refused := ⟨⟨_, _, _, _, _, _, _, rfl, kit1_ty (by decide +kernel) rt_Refused.1, kit1_ty (by decide +kernel) rt_Refused.2.1, kit1_ty (by decide +kernel) rt_Refused.2.2.1, kit1_ty (by decide +kernel) rt_Refused.2.2.2.1, kit1_ty (by decide +kernel) rt_Refused.2.2.2.2.1, kit1_ty (by decide +kernel) rt_Refused.2.2.2.2.2.1, kit1_own ic_RampError ty_RampError rt_Refused.2.2.2.2.2.2 (fun z => by have h := rt_Refused.2.2.2.2.2.2; rw [← z, sb_Refused.2.2.2.2.2.2.2.2.2.2.2.2.2.2] at h; cases h)⟩⟩, em_Refused := ⟨RW.exm_of be_InvalidRow ic_InvalidRow ty_InvalidRow sb_Refused.1, RW.exm_of be_InvalidLot ic_InvalidLot ty_InvalidLot sb_Refused.2.1, RW.exm_of be_InvalidReading ic_InvalidReading ty_InvalidReading sb_Refused.2.2.1, RW.exm_of be_InvalidNetwork ic_InvalidNetwork ty_InvalidNetwork sb_Refused.2.2.2.1, RW.exm_of be_InvalidGrowth ic_InvalidGrowth ty_InvalidGrowth sb_Refused.2.2.2.2.1, RW.exm_of be_InvalidOperation ic_InvalidOperation ty_InvalidOperation sb_Refused.2.2.2.2.2.1, RW.exm_of be_InvalidText ic_InvalidText ty_InvalidText sb_Refused.2.2.2.2.2.2.1, RW.exm_of be_InvalidClaim ic_InvalidClaim ty_InvalidClaim sb_Refused.2.2.2.2.2.2.2.1, RW.exm_of be_ParseError ic_ParseError ty_ParseError sb_Refused.2.2.2.2.2.2.2.2.1, RW.exm_of be_RampError ic_RampError ty_RampError sb_Refused.2.2.2.2.2.2.2.2.2.1, RW.exm_of be_InvalidNumber ic_InvalidNumber ty_InvalidNumber sb_Refused.2.2.2.2.2.2.2.2.2.2.1, RW.exm_of be_UnknownName ic_UnknownName ty_UnknownName sb_Refused.2.2.2.2.2.2.2.2.2.2.2.1, RW.exm_of be_NothingToUndo ic_NothingToUndo ty_NothingToUndo sb_Refused.2.2.2.2.2.2.2.2.2.2.2.2.1, RW.exm_of be_TooMany ic_TooMany ty_TooMany sb_Refused.2.2.2.2.2.2.2.2.2.2.2.2.2.1, trivial⟩, es_Refused := RW.exm_of be_Refused ic_Refused ty_Refused sb_Refused.2.2.2.2.2.2.2.2.2.2.2.2.2.2 }
  refine ⟨_, [], SpD K (gLaw T), ?_, ?_, fun s v => .of_eq rfl, fun H a ns hl _ hH hS => ?_, fun base _ _ hTB => ok_law T⟩
  · intro p hp
    exact (List.not_mem_nil hp).elim
  · intro p hp
    exact (List.not_mem_nil hp).elim
  · obtain ⟨B, c, r⟩ := tabs_start (Ts := []) List.nodup_nil (fun p hp => by
      exact (List.not_mem_nil hp).elim) hS
    exact ⟨B, _, _, [.d (.scr ns)], .bl true, _, c, .cons r .nil, ⟨ns, rfl, hl, rfl, rfl⟩, fun v B' H' _ _ r => by cases r; rfl⟩
end N00
open PySem PySem.W PyProof.Rows
set_option maxRecDepth 100000 in
set_option maxHeartbeats 0 in
theorem PySem.Challenge.cw_rampworks_k00_errors_and_what_they_keep_holds : PySem.Challenge.rw_rampworks_k00_errors_and_what_they_keep.Holds := by
  w_on; o_law; k_head; (case hw => w_witness2)
  k_fill
  refine RW.walk_lamG (k := 7) (n := 63) (x := "script") (l := PySem.Challenge.rw_rampworks_k00_errors_and_what_they_keep) rfl (by decide) rfl ⟨rfl, by decide, by decide⟩ (fun w h Y => PySem.W.kIn_of Y) ?F
  case F =>
    intro w mg fa h KX G hmg
    refine' N00.all_mk KX G hmg ?n_InvalidRow ?n_InvalidLot ?n_InvalidReading ?n_InvalidNetwork ?n_InvalidGrowth ?n_InvalidOperation ?n_InvalidText ?n_InvalidClaim ?n_ParseError ?n_RampError ?n_InvalidNumber ?n_UnknownName ?n_NothingToUndo ?n_TooMany ?n_Refused ?a__ParseErroru_initu ?i__ParseErroru_initu ?l__ParseErroru_initu ?c__ParseErroru_initu ?k__ParseErroru_initu ?a__InvalidNumberu_initu ?i__InvalidNumberu_initu ?l__InvalidNumberu_initu ?c__InvalidNumberu_initu ?k__InvalidNumberu_initu ?a__UnknownNameu_initu ?i__UnknownNameu_initu ?l__UnknownNameu_initu ?c__UnknownNameu_initu ?k__UnknownNameu_initu ?a__TooManyu_initu ?i__TooManyu_initu ?l__TooManyu_initu ?c__TooManyu_initu ?k__TooManyu_initu ?a__NothingToUndou_initu ?i__NothingToUndou_initu ?l__NothingToUndou_initu ?c__NothingToUndou_initu ?k__NothingToUndou_initu ?a__Refusedu_initu ?i__Refusedu_initu ?l__Refusedu_initu ?c__Refusedu_initu ?k__Refusedu_initu ?a___law_pail ?l___law_pail ?c___law_pail ?k___law_pail ?a___law_scooped ?l___law_scooped ?c___law_scooped ?k___law_scooped ?a___law_any_of ?l___law_any_of ?c___law_any_of ?k___law_any_of ?a___law_raise ?l___law_raise ?c___law_raise ?k___law_raise ?a___law_raise_kept ?l___law_raise_kept ?c___law_raise_kept ?k___law_raise_kept ?a___law_roots ?l___law_roots ?c___law_roots ?k___law_roots ?a___law_caught ?l___law_caught ?c___law_caught ?k___law_caught ?a___law_right ?l___law_right ?c___law_right ?k___law_right ?a__law ?l__law ?c__law ?k__law ?z_isinstance ?z_len ?z_max ?z_min ?z_abs ?z_range ?z_sorted ?z_repr ?z_int ?z_ValueError ?z_IndexError ?z_KeyError ?z_OverflowError ?z_ArithmeticError ?z_LookupError ?k_InvalidRow ?be_InvalidRow ?ty_InvalidRow ?ic_InvalidRow ?x_InvalidRow ?k_InvalidLot ?be_InvalidLot ?ty_InvalidLot ?ic_InvalidLot ?x_InvalidLot ?k_InvalidReading ?be_InvalidReading ?ty_InvalidReading ?ic_InvalidReading ?x_InvalidReading ?k_InvalidNetwork ?be_InvalidNetwork ?ty_InvalidNetwork ?ic_InvalidNetwork ?x_InvalidNetwork ?k_InvalidGrowth ?be_InvalidGrowth ?ty_InvalidGrowth ?ic_InvalidGrowth ?x_InvalidGrowth ?k_InvalidOperation ?be_InvalidOperation ?ty_InvalidOperation ?ic_InvalidOperation ?x_InvalidOperation ?k_InvalidText ?be_InvalidText ?ty_InvalidText ?ic_InvalidText ?x_InvalidText ?k_InvalidClaim ?be_InvalidClaim ?ty_InvalidClaim ?ic_InvalidClaim ?x_InvalidClaim ?k_ParseError ?be_ParseError ?ty_ParseError ?ic_ParseError ?ol_ParseError ?os_ParseError ?ot_ParseError ?nf_ParseError ?ga_ParseError ?gg_ParseError ?hc_ParseError ?k_RampError ?be_RampError ?ty_RampError ?ic_RampError ?x_RampError ?k_InvalidNumber ?be_InvalidNumber ?ty_InvalidNumber ?ic_InvalidNumber ?ol_InvalidNumber ?os_InvalidNumber ?ot_InvalidNumber ?nf_InvalidNumber ?ga_InvalidNumber ?gg_InvalidNumber ?hc_InvalidNumber ?k_UnknownName ?be_UnknownName ?ty_UnknownName ?ic_UnknownName ?ol_UnknownName ?os_UnknownName ?ot_UnknownName ?nf_UnknownName ?ga_UnknownName ?gg_UnknownName ?hc_UnknownName ?k_NothingToUndo ?be_NothingToUndo ?ty_NothingToUndo ?ic_NothingToUndo ?ol_NothingToUndo ?os_NothingToUndo ?ot_NothingToUndo ?nf_NothingToUndo ?ga_NothingToUndo ?gg_NothingToUndo ?hc_NothingToUndo ?k_TooMany ?be_TooMany ?ty_TooMany ?ic_TooMany ?ol_TooMany ?os_TooMany ?ot_TooMany ?nf_TooMany ?ga_TooMany ?gg_TooMany ?hc_TooMany ?k_Refused ?be_Refused ?ty_Refused ?ic_Refused ?ol_Refused ?os_Refused ?ot_Refused ?nf_Refused ?ga_Refused ?gg_Refused ?hc_Refused ?cn_ ?ct_ ?xk_InvalidRow ?rt_InvalidRow ?sb_InvalidRow ?xk_InvalidLot ?rt_InvalidLot ?sb_InvalidLot ?xk_InvalidReading ?rt_InvalidReading ?sb_InvalidReading ?xk_InvalidNetwork ?rt_InvalidNetwork ?sb_InvalidNetwork ?xk_InvalidGrowth ?rt_InvalidGrowth ?sb_InvalidGrowth ?xk_InvalidOperation ?rt_InvalidOperation ?sb_InvalidOperation ?xk_InvalidText ?rt_InvalidText ?sb_InvalidText ?xk_InvalidClaim ?rt_InvalidClaim ?sb_InvalidClaim ?xk_ParseError ?rt_ParseError ?sb_ParseError ?xk_RampError ?rt_RampError ?sb_RampError ?xk_InvalidNumber ?rt_InvalidNumber ?sb_InvalidNumber ?xk_UnknownName ?rt_UnknownName ?sb_UnknownName ?xk_NothingToUndo ?rt_NothingToUndo ?sb_NothingToUndo ?xk_TooMany ?rt_TooMany ?sb_TooMany ?xk_Refused ?rt_Refused ?sb_Refused
    (case n_InvalidRow => k_is)
    (case n_InvalidLot => k_is)
    (case n_InvalidReading => k_is)
    (case n_InvalidNetwork => k_is)
    (case n_InvalidGrowth => k_is)
    (case n_InvalidOperation => k_is)
    (case n_InvalidText => k_is)
    (case n_InvalidClaim => k_is)
    (case n_ParseError => k_is)
    (case n_RampError => k_is)
    (case n_InvalidNumber => k_is)
    (case n_UnknownName => k_is)
    (case n_NothingToUndo => k_is)
    (case n_TooMany => k_is)
    (case n_Refused => k_is)
    (case a__ParseErroru_initu => k_is)
    (case i__ParseErroru_initu => k_is)
    (case l__ParseErroru_initu => k_is)
    (case c__ParseErroru_initu => k_is)
    (case k__ParseErroru_initu => k_is)
    (case a__InvalidNumberu_initu => k_is)
    (case i__InvalidNumberu_initu => k_is)
    (case l__InvalidNumberu_initu => k_is)
    (case c__InvalidNumberu_initu => k_is)
    (case k__InvalidNumberu_initu => k_is)
    (case a__UnknownNameu_initu => k_is)
    (case i__UnknownNameu_initu => k_is)
    (case l__UnknownNameu_initu => k_is)
    (case c__UnknownNameu_initu => k_is)
    (case k__UnknownNameu_initu => k_is)
    (case a__TooManyu_initu => k_is)
    (case i__TooManyu_initu => k_is)
    (case l__TooManyu_initu => k_is)
    (case c__TooManyu_initu => k_is)
    (case k__TooManyu_initu => k_is)
    (case a__NothingToUndou_initu => k_is)
    (case i__NothingToUndou_initu => k_is)
    (case l__NothingToUndou_initu => k_is)
    (case c__NothingToUndou_initu => k_is)
    (case k__NothingToUndou_initu => k_is)
    (case a__Refusedu_initu => k_is)
    (case i__Refusedu_initu => k_is)
    (case l__Refusedu_initu => k_is)
    (case c__Refusedu_initu => k_is)
    (case k__Refusedu_initu => k_is)
    (case a___law_pail => k_is)
    (case l___law_pail => k_is)
    (case c___law_pail => k_is)
    (case k___law_pail => k_is)
    (case a___law_scooped => k_is)
    (case l___law_scooped => k_is)
    (case c___law_scooped => k_is)
    (case k___law_scooped => k_is)
    (case a___law_any_of => k_is)
    (case l___law_any_of => k_is)
    (case c___law_any_of => k_is)
    (case k___law_any_of => k_is)
    (case a___law_raise => k_is)
    (case l___law_raise => k_is)
    (case c___law_raise => k_is)
    (case k___law_raise => k_is)
    (case a___law_raise_kept => k_is)
    (case l___law_raise_kept => k_is)
    (case c___law_raise_kept => k_is)
    (case k___law_raise_kept => k_is)
    (case a___law_roots => k_is)
    (case l___law_roots => k_is)
    (case c___law_roots => k_is)
    (case k___law_roots => k_is)
    (case a___law_caught => k_is)
    (case l___law_caught => k_is)
    (case c___law_caught => k_is)
    (case k___law_caught => k_is)
    (case a___law_right => k_is)
    (case l___law_right => k_is)
    (case c___law_right => k_is)
    (case k___law_right => k_is)
    (case a__law => k_is)
    (case l__law => k_is)
    (case c__law => k_is)
    (case k__law => k_is)
    (case z_isinstance => k_is)
    (case z_len => k_is)
    (case z_max => k_is)
    (case z_min => k_is)
    (case z_abs => k_is)
    (case z_range => k_is)
    (case z_sorted => k_is)
    (case z_repr => k_is)
    (case z_int => k_is)
    (case z_ValueError => k_is)
    (case z_IndexError => k_is)
    (case z_KeyError => k_is)
    (case z_OverflowError => k_is)
    (case z_ArithmeticError => k_is)
    (case z_LookupError => k_is)
    (case k_InvalidRow => k_is)
    (case be_InvalidRow => k_is)
    (case ty_InvalidRow => k_is)
    (case ic_InvalidRow => k_is)
    (case x_InvalidRow => k_exc)
    (case k_InvalidLot => k_is)
    (case be_InvalidLot => k_is)
    (case ty_InvalidLot => k_is)
    (case ic_InvalidLot => k_is)
    (case x_InvalidLot => k_exc)
    (case k_InvalidReading => k_is)
    (case be_InvalidReading => k_is)
    (case ty_InvalidReading => k_is)
    (case ic_InvalidReading => k_is)
    (case x_InvalidReading => k_exc)
    (case k_InvalidNetwork => k_is)
    (case be_InvalidNetwork => k_is)
    (case ty_InvalidNetwork => k_is)
    (case ic_InvalidNetwork => k_is)
    (case x_InvalidNetwork => k_exc)
    (case k_InvalidGrowth => k_is)
    (case be_InvalidGrowth => k_is)
    (case ty_InvalidGrowth => k_is)
    (case ic_InvalidGrowth => k_is)
    (case x_InvalidGrowth => k_exc)
    (case k_InvalidOperation => k_is)
    (case be_InvalidOperation => k_is)
    (case ty_InvalidOperation => k_is)
    (case ic_InvalidOperation => k_is)
    (case x_InvalidOperation => k_exc)
    (case k_InvalidText => k_is)
    (case be_InvalidText => k_is)
    (case ty_InvalidText => k_is)
    (case ic_InvalidText => k_is)
    (case x_InvalidText => k_exc)
    (case k_InvalidClaim => k_is)
    (case be_InvalidClaim => k_is)
    (case ty_InvalidClaim => k_is)
    (case ic_InvalidClaim => k_is)
    (case x_InvalidClaim => k_exc)
    (case k_ParseError => k_is)
    (case be_ParseError => k_is)
    (case ty_ParseError => k_is)
    (case ic_ParseError => k_is)
    (case ol_ParseError => exact ⟨_, _, _, _, _, _, _, _, _, _, _, _, _, _, _, by k_is, by decide +kernel⟩)
    (case os_ParseError => k_is)
    (case ot_ParseError => k_is)
    (case nf_ParseError => k_is)
    (case ga_ParseError => k_is)
    (case gg_ParseError => k_is)
    (case hc_ParseError => k_is)
    (case k_RampError => k_is)
    (case be_RampError => k_is)
    (case ty_RampError => k_is)
    (case ic_RampError => k_is)
    (case x_RampError => k_exc)
    (case k_InvalidNumber => k_is)
    (case be_InvalidNumber => k_is)
    (case ty_InvalidNumber => k_is)
    (case ic_InvalidNumber => k_is)
    (case ol_InvalidNumber => exact ⟨_, _, _, _, _, _, _, _, _, _, _, _, _, _, by k_is⟩)
    (case os_InvalidNumber => k_is)
    (case ot_InvalidNumber => k_is)
    (case nf_InvalidNumber => k_is)
    (case ga_InvalidNumber => k_is)
    (case gg_InvalidNumber => k_is)
    (case hc_InvalidNumber => k_is)
    (case k_UnknownName => k_is)
    (case be_UnknownName => k_is)
    (case ty_UnknownName => k_is)
    (case ic_UnknownName => k_is)
    (case ol_UnknownName => exact ⟨_, _, _, _, _, _, _, _, _, _, _, _, _, _, by k_is⟩)
    (case os_UnknownName => k_is)
    (case ot_UnknownName => k_is)
    (case nf_UnknownName => k_is)
    (case ga_UnknownName => k_is)
    (case gg_UnknownName => k_is)
    (case hc_UnknownName => k_is)
    (case k_NothingToUndo => k_is)
    (case be_NothingToUndo => k_is)
    (case ty_NothingToUndo => k_is)
    (case ic_NothingToUndo => k_is)
    (case ol_NothingToUndo => exact ⟨_, _, _, _, _, _, _, _, _, _, _, _, _, _, by k_is⟩)
    (case os_NothingToUndo => k_is)
    (case ot_NothingToUndo => k_is)
    (case nf_NothingToUndo => k_is)
    (case ga_NothingToUndo => k_is)
    (case gg_NothingToUndo => k_is)
    (case hc_NothingToUndo => k_is)
    (case k_TooMany => k_is)
    (case be_TooMany => k_is)
    (case ty_TooMany => k_is)
    (case ic_TooMany => k_is)
    (case ol_TooMany => exact ⟨_, _, _, _, _, _, _, _, _, _, _, _, _, _, by k_is⟩)
    (case os_TooMany => k_is)
    (case ot_TooMany => k_is)
    (case nf_TooMany => k_is)
    (case ga_TooMany => k_is)
    (case gg_TooMany => k_is)
    (case hc_TooMany => k_is)
    (case k_Refused => k_is)
    (case be_Refused => k_is)
    (case ty_Refused => k_is)
    (case ic_Refused => k_is)
    (case ol_Refused => exact ⟨_, _, _, _, _, _, _, _, _, _, _, _, _, _, by k_is⟩)
    (case os_Refused => k_is)
    (case ot_Refused => k_is)
    (case nf_Refused => k_is)
    (case ga_Refused => k_is)
    (case gg_Refused => k_is)
    (case hc_Refused => k_is)
    (case cn_ => k_is)
    (case ct_ => k_is)
    (case xk_InvalidRow => exact ⟨by k_is, by k_is, by k_is, by k_is⟩)
    (case rt_InvalidRow => exact ⟨by k_is, by k_is, by k_is, by k_is, by k_is, by k_is, by k_is⟩)
    (case sb_InvalidRow => exact by k_is)
    (case xk_InvalidLot => exact ⟨by k_is, by k_is, by k_is, by k_is⟩)
    (case rt_InvalidLot => exact ⟨by k_is, by k_is, by k_is, by k_is, by k_is, by k_is, by k_is⟩)
    (case sb_InvalidLot => exact ⟨by k_is, by k_is⟩)
    (case xk_InvalidReading => exact ⟨by k_is, by k_is, by k_is, by k_is⟩)
    (case rt_InvalidReading => exact ⟨by k_is, by k_is, by k_is, by k_is, by k_is, by k_is, by k_is⟩)
    (case sb_InvalidReading => exact ⟨by k_is, by k_is, by k_is⟩)
    (case xk_InvalidNetwork => exact ⟨by k_is, by k_is, by k_is, by k_is⟩)
    (case rt_InvalidNetwork => exact ⟨by k_is, by k_is, by k_is, by k_is, by k_is, by k_is, by k_is⟩)
    (case sb_InvalidNetwork => exact ⟨by k_is, by k_is, by k_is, by k_is⟩)
    (case xk_InvalidGrowth => exact ⟨by k_is, by k_is, by k_is, by k_is⟩)
    (case rt_InvalidGrowth => exact ⟨by k_is, by k_is, by k_is, by k_is, by k_is, by k_is, by k_is⟩)
    (case sb_InvalidGrowth => exact ⟨by k_is, by k_is, by k_is, by k_is, by k_is⟩)
    (case xk_InvalidOperation => exact ⟨by k_is, by k_is, by k_is, by k_is⟩)
    (case rt_InvalidOperation => exact ⟨by k_is, by k_is, by k_is, by k_is, by k_is, by k_is, by k_is⟩)
    (case sb_InvalidOperation => exact ⟨by k_is, by k_is, by k_is, by k_is, by k_is, by k_is⟩)
    (case xk_InvalidText => exact ⟨by k_is, by k_is, by k_is, by k_is⟩)
    (case rt_InvalidText => exact ⟨by k_is, by k_is, by k_is, by k_is, by k_is, by k_is, by k_is⟩)
    (case sb_InvalidText => exact ⟨by k_is, by k_is, by k_is, by k_is, by k_is, by k_is, by k_is⟩)
    (case xk_InvalidClaim => exact ⟨by k_is, by k_is, by k_is, by k_is⟩)
    (case rt_InvalidClaim => exact ⟨by k_is, by k_is, by k_is, by k_is, by k_is, by k_is, by k_is⟩)
    (case sb_InvalidClaim => exact ⟨by k_is, by k_is, by k_is, by k_is, by k_is, by k_is, by k_is, by k_is⟩)
    (case xk_ParseError => exact ⟨by k_is, by k_is, by k_is, by k_is⟩)
    (case rt_ParseError => exact ⟨by k_is, by k_is, by k_is, by k_is, by k_is, by k_is, by k_is⟩)
    (case sb_ParseError => exact ⟨by k_is, by k_is, by k_is, by k_is, by k_is, by k_is, by k_is, by k_is, by k_is⟩)
    (case xk_RampError => exact ⟨by k_is, by k_is, by k_is, by k_is⟩)
    (case rt_RampError => exact ⟨by k_is, by k_is, by k_is, by k_is, by k_is, by k_is, by k_is⟩)
    (case sb_RampError => exact ⟨by k_is, by k_is, by k_is, by k_is, by k_is, by k_is, by k_is, by k_is, by k_is, by k_is⟩)
    (case xk_InvalidNumber => exact ⟨by k_is, by k_is, by k_is, by k_is⟩)
    (case rt_InvalidNumber => exact ⟨by k_is, by k_is, by k_is, by k_is, by k_is, by k_is, by k_is⟩)
    (case sb_InvalidNumber => exact ⟨by k_is, by k_is, by k_is, by k_is, by k_is, by k_is, by k_is, by k_is, by k_is, by k_is, by k_is⟩)
    (case xk_UnknownName => exact ⟨by k_is, by k_is, by k_is, by k_is⟩)
    (case rt_UnknownName => exact ⟨by k_is, by k_is, by k_is, by k_is, by k_is, by k_is, by k_is⟩)
    (case sb_UnknownName => exact ⟨by k_is, by k_is, by k_is, by k_is, by k_is, by k_is, by k_is, by k_is, by k_is, by k_is, by k_is, by k_is⟩)
    (case xk_NothingToUndo => exact ⟨by k_is, by k_is, by k_is, by k_is⟩)
    (case rt_NothingToUndo => exact ⟨by k_is, by k_is, by k_is, by k_is, by k_is, by k_is, by k_is⟩)
    (case sb_NothingToUndo => exact ⟨by k_is, by k_is, by k_is, by k_is, by k_is, by k_is, by k_is, by k_is, by k_is, by k_is, by k_is, by k_is, by k_is⟩)
    (case xk_TooMany => exact ⟨by k_is, by k_is, by k_is, by k_is⟩)
    (case rt_TooMany => exact ⟨by k_is, by k_is, by k_is, by k_is, by k_is, by k_is, by k_is⟩)
    (case sb_TooMany => exact ⟨by k_is, by k_is, by k_is, by k_is, by k_is, by k_is, by k_is, by k_is, by k_is, by k_is, by k_is, by k_is, by k_is, by k_is⟩)
    (case xk_Refused => exact ⟨by k_is, by k_is, by k_is, by k_is⟩)
    (case rt_Refused => exact ⟨by k_is, by k_is, by k_is, by k_is, by k_is, by k_is, by k_is⟩)
    (case sb_Refused => exact ⟨by k_is, by k_is, by k_is, by k_is, by k_is, by k_is, by k_is, by k_is, by k_is, by k_is, by k_is, by k_is, by k_is, by k_is, by k_is⟩)

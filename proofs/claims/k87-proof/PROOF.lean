import PyProof.Rows.All
import Wide.All
import OpenK.AllK
import Wide.FinOn
import PyProof.EqAt
import PyProof.EqKinds
import PyProof.TupleCall
import KE.GoesEnum
import HandS.Base
import HandS.Call
import HandS.List
import HandS.Comp
import HandS.Iter
import HandS.Evl
import HandS.Lambda
import HandS.Words
import HandS.Conv
import HandS.TupAny
import HandS.TupMul
import HandS.IsInst
import HandS.Wide
import HandS.RevRange
import HandS.SortInts
import PyProof.IsRules
import HandS.OwnEq
import HandS.More
import PyProof.InstNe
import HandS.FStr
import HandS.Text
import KE.KCallOwn
import HandS.Star
import HandS.TupSets
import HandS.Small
import HandS.StrMore
import HandS.TupLe
import HandS.ReplaceLit
import HandS.Codes
import HandS.Exc
import HandS.ExcOwn
import HandS.ExcInit
import HandS.ExcField
import HandS.TryMany
import HandS.WordsExc
import HandS.RaiseMore
import HandS.EndTab
import HandS.CallLocal
import HandS.EndBits
import KE.KNestM
import PyProof.StrBlock2
import PySem.Challenge.RW_rampworks_k87_errors_of_texts
set_option Elab.async false
set_option linter.all false
set_option maxRecDepth 100000
set_option maxHeartbeats 4000000
namespace RW
open PySem PySem.Spec PyProof.Rows L2

/-- a sequence at a: a list (true), a tuple (false) -/
def Sq (K : PySem.W.Frag) (k : Bool) (H : Hp) (a : Addr) (xs : List V) : Prop := match k with
  | true => SqL K H a xs
  | false => SqT K H a xs
def itAt (k : Bool) (h : Heap) (it a : Addr) (i : Nat) : Prop := match k with
  | true => h.IsListIter it a i
  | false => h.IsTupleIter it a i
def seqAt (k : Bool) (h : Heap) (a : Addr) (its : Array Value) : Prop := match k with
  | true => h.IsList a its
  | false => h.IsTuple a its
def itObj (k : Bool) (a : Addr) : Obj := match k with
  | true => { cls := .type "list_iterator", data := .fields #[.ref a, .int 0 0] }
  | false => { cls := .type "tuple_iterator", data := .fields #[.ref a, .int 0 0] }
theorem itAt.there {k : Bool} {h : Heap} {it a : Addr} {i : Nat} (x : itAt k h it a i) : ∃ o, h.get? it = some o ∧ ∀ v, o.data ≠ .cell v := by
  cases k with
  | true => obtain ⟨o, e, c, d⟩ := x; exact ⟨o, e, fun v z => by rw [d] at z; cases z⟩
  | false => obtain ⟨o, e, c, d⟩ := x; exact ⟨o, e, fun v z => by rw [d] at z; cases z⟩
theorem itAt.at {k : Bool} {h h' : Heap} {it a : Addr} {i : Nat} (x : itAt k h it a i) (s : ∀ o, h.get? it = some o → h'.get? it = some o) : itAt k h' it a i := by
  cases k with
  | true => exact Heap.IsListIter.at x s
  | false => exact Heap.IsTupleIter.at x s
theorem draws_k {prog : Program} {w : World} {A : Around} (hh : A.handled = none) (k : Bool) (it t : Addr) (hne : t ≠ it) (items : Array Value) :
    Draws prog w A it [it, t] items.size (fun i v => items[i]? = some v) (fun i h => itAt k h it t i ∧ seqAt k h t items) := by
  cases k with
  | true => exact Draws.list hh it t hne items
  | false => exact Draws.tuple hh it t hne items
theorem begins_k (k : Bool) (t : Addr) (items : Array Value) : Begins (.ref t) (itObj k t) fun h => seqAt k h t items := by
  cases k with
  | true => exact begins_list t items
  | false => exact begins_tuple t items
theorem itAt_new {k : Bool} {h : Heap} {it a : Addr} (e : h.get? it = some (itObj k a)) : itAt k h it a 0 := by
  cases k with
  | true => exact ⟨_, e, rfl, rfl⟩
  | false => exact ⟨_, e, rfl, rfl⟩
section
variable {X : Cx} {pins : List (Addr × Obj)} {σ : L2.St} {H : Hp} {s : Shared} {k : Bool} {a : Addr} {xs ys : List V}
theorem inv_seq (I : Inv X pins σ H s) (h : Sq X.K k H a xs) : ∃ its : List Value, Vals xs its ∧ seqAt k s.heap a its.toArray := by
  cases k with
  | true =>
    obtain ⟨its, rv, p, _⟩ := I.list h
    exact ⟨its, rv, p.isList⟩
  | false =>
    obtain ⟨its, rv, p, _⟩ := I.tuple h
    exact ⟨its, rv, p⟩
theorem inv_inj (I : Inv X pins σ H s) (h : Sq X.K k H a xs) (h' : Sq X.K k H a ys) : xs = ys := by
  cases k with
  | true => exact I.list_inj h h'
  | false => exact I.tuple_inj h h'
theorem seqAt.lt {k : Bool} {h : Heap} {a : Addr} {its : Array Value} (x : seqAt k h a its) : a < h.objs.size := by
  cases k with
  | true => obtain ⟨o, e, _⟩ := x; exact Heap.lt_size e
  | false => obtain ⟨o, e, _⟩ := x; exact Heap.lt_size e
end

/-! ### a list or a tuple, walked -/
def ItS (K : PySem.W.Frag) (k : Bool) (a : Addr) : It := match k with
  | true => Itl K a
  | false => Itt K a
def iSeq (K : PySem.W.Frag) (tl : TE) : TI := fun σ H R => tl σ H fun x H1 => ∃ a k, x = .ref a ∧ (∃ xs, Sq K k H1 a xs) ∧ R (ItS K k a) H1
theorem pi_seq {X : Cx} {tg l : Expr} {tl : TE} (hl : PE X l tl) : PI X tg l (iSeq X.K tl) := by
  refine ⟨fun pins s σ H R I h => ?_⟩
  refine thn (hl.run pins s σ H _ I h) fun v s1 ⟨x, H1, I1, r1, q1⟩ => ?_
  obtain ⟨a, k, e, ⟨xs, hq⟩, q⟩ := q1
  subst e
  cases r1
  obtain ⟨its, rv, p⟩ := inv_seq I1 hq
  cases k with
  | true =>
    refine wpAny_pyIter_list p ?_
    refine ⟨s1.heap.objs.size, [s1.heap.objs.size], _, _, H1, rfl, I1.kept (t' := s1.toks) fun b o e => Heap.get?_push_of_some _ e, turn_list a _, ⟨_, Heap.get?_push_size _ rfl, rfl, rfl⟩, fun b hb => ?_, q⟩
    have e : b = s1.heap.objs.size := by simpa using hb
    subst e
    exact I1.fpOk (Nat.le_refl _) (I1.hok.fresh (Nat.le_refl _))
  | false =>
    refine wpAny_pyIter_tuple p ?_
    refine ⟨s1.heap.objs.size, [s1.heap.objs.size], _, _, H1, rfl, I1.kept (t' := s1.toks) fun b o e => Heap.get?_push_of_some _ e, turn_tuple a _, ⟨_, Heap.get?_push_size _ rfl, rfl, rfl⟩, fun b hb => ?_, q⟩
    have e : b = s1.heap.objs.size := by simpa using hb
    subst e
    exact I1.fpOk (Nat.le_refl _) (I1.hok.fresh (Nat.le_refl _))

/-! ### zip of two sequences -/
def ItzG (K : PySem.W.Frag) (k1 k2 : Bool) (a b : Addr) : It :=
  ⟨fun i H => ∃ (xs ys : List V) (x y : V), Sq K k1 H a xs ∧ Sq K k2 H b ys ∧ xs[i]? = some x ∧ ys[i]? = some y,
    fun i H v H' => ∃ T x y, v = .ref T ∧ H T = none ∧ H' = upd H T (.tup [x, y]) ∧ (∀ xs, Sq K k1 H a xs → xs[i]? = some x) ∧ ∀ ys, Sq K k2 H b ys → ys[i]? = some y,
    fun i H => ∃ xs ys : List V, Sq K k1 H a xs ∧ Sq K k2 H b ys ∧ i ≤ xs.length ∧ i ≤ ys.length ∧ (xs.length ≤ i ∨ ys.length ≤ i)⟩
theorem turn_zipG {P : Program} {w : World} {K : PySem.W.Frag} {elts : List Expr} {kk : Nat} {tpos : Pos} {k1 k2 : Bool} {a b z TI TO i1 i2 : Addr} (D : ZipSep2 z TI TO i1 i2 [i1, a] [i2, b]) (n1 : a ≠ i1) (n2 : b ≠ i2) :
    Turn P w K (.Tuple elts kk tpos) (ItzG K k1 k2 a b) [z, TI, TO, i1, i2] z (fun i h => IsZip h z TI TO .none ∧ IsTupOf2 h TI (.ref i1) (.ref i2) ∧ (∃ x y, IsTupOf2 h TO x y) ∧ itAt k1 h i1 a i ∧ itAt k2 h i2 b i) where
  mem := by simp
  obj := fun i h st c hc => by
    obtain ⟨hz, hTI, ⟨x, y, hTO⟩, h1, h2⟩ := st
    have e' : c = z ∨ c = TI ∨ c = TO ∨ c = i1 ∨ c = i2 := by simpa using hc
    rcases e' with q | q | q | q | q
    · rw [q]; exact ⟨_, hz, fun v q => nomatch q⟩
    · rw [q]; exact ⟨_, hTI, fun v q => nomatch q⟩
    · rw [q]; exact ⟨_, hTO, fun v q => nomatch q⟩
    · rw [q]; exact h1.there
    · rw [q]; exact h2.there
  keep := fun i h h' st k => by
    obtain ⟨hz, hTI, ⟨x, y, hTO⟩, h1, h2⟩ := st
    exact ⟨k z (by simp) _ hz, k TI (by simp) _ hTI, ⟨x, y, k TO (by simp) _ hTO⟩, h1.at fun o q => k i1 (by simp) o q, h2.at fun o q => k i2 (by simp) o q⟩
  item := by
    intro X hP hw hK hc i pins s σ H E I hf st hg
    subst hP hw hK
    obtain ⟨hz, hTI, ⟨x0, y0, hTO⟩, h1, h2⟩ := st
    obtain ⟨xs, ys, x, y, hqx, hqy, hx, hy⟩ := hg
    obtain ⟨its, rv, p⟩ := inv_seq I hqx
    obtain ⟨its2, rv2, p2⟩ := inv_seq I hqy
    obtain ⟨u, hu, ru⟩ := rv.get hx
    obtain ⟨u2, hu2, ru2⟩ := rv2.get hy
    have hzl : z < s.heap.objs.size := Heap.lt_size hz
    have hh : X.A.in1.handled = none := I.ok.hd hc
    have l1 : i < its.toArray.size := by
      have := (List.getElem?_eq_some_iff.mp hu).1
      simpa using this
    have l2 : i < its2.toArray.size := by
      have := (List.getElem?_eq_some_iff.mp hu2).1
      simpa using this
    refine wpAny_pyNext_zipD2_item D (draws_k hh k1 i1 a n1 its.toArray) (draws_k hh k2 i2 b n2 its2.toArray) hz hTI hTO ⟨h1, p⟩ ⟨h2, p2⟩ l1 l2 fun v1 v2 h' tk e1 e2 z' TO' h1' h2' hT hsz hk => ?_
    have e1' : v1 = u := by
      have q : its[i]? = some v1 := by simpa using e1
      rw [hu] at q
      exact (Option.some.inj q).symm
    have e2' : v2 = u2 := by
      have q : its2[i]? = some v2 := by simpa using e2
      rw [hu2] at q
      exact (Option.some.inj q).symm
    subst e1' e2'
    refine ⟨_, rfl, wpAny_letOwnedTupleGo_zip (s := { s with heap := h', toks := tk }) z' fun h'' z'' sb => ?_⟩
    have hT2 : h''.get? s.heap.objs.size = some { cls := .type "tuple", data := .seq #[v1, v2] } := (sb.2 _ (Nat.ne_of_gt hzl)).trans hT
    have new : ObjOk X.prog X.w (upd H s.heap.objs.size (.tup [x, y])) h'' s.heap.objs.size (.tup [x, y]) :=
      ⟨by show 2 ≤ sizeLine; decide, [v1, v2], .cons ru (.cons ru2 .nil), ⟨_, hT2, rfl, _, rfl⟩⟩
    have I1 : Inv X pins σ (upd H s.heap.objs.size (.tup [x, y])) { s with heap := h'', toks := tk } :=
      I.turnedNew (t' := tk) (ch := [z, TI, TO, i1, i2]) (fun c o hb q => (sb.2 c (fun q' => hb (by simp [q']))).trans (hk c o (fun q' => hb (by simp [q'])) (fun q' => hb (by simp [q'])) (fun q' => hb (by simp [q'])) (fun q' => hb (by simp [q'])) q)) hf (Nat.le_refl _) new
    refine ⟨.ref s.heap.objs.size, _, I1, rfl, ⟨_, x, y, rfl, I.hok.fresh (Nat.le_refl _), rfl, fun l hl => by rw [inv_inj I hl hqx]; exact hx, fun l hl => by rw [inv_inj I hl hqy]; exact hy⟩, ⟨z'', ?_, ⟨v1, v2, ?_⟩, ?_, ?_⟩, fun c hcm => ?_⟩
    · exact (sb.2 _ D.TIz).trans (hk _ _ D.TIz D.TITO D.TIi1 D.TIi2 hTI)
    · exact (sb.2 _ D.TOz).trans TO'
    · exact h1'.1.at fun o q => (sb.2 _ (Ne.symm D.zi1)).trans q
    · exact h2'.1.at fun o q => (sb.2 _ (Ne.symm D.zi2)).trans q
    · have hlt : c < s.heap.objs.size := by
        have e' : c = z ∨ c = TI ∨ c = TO ∨ c = i1 ∨ c = i2 := by simpa using hcm
        rcases e' with q | q | q | q | q
        · rw [q]; exact hzl
        · rw [q]; exact Heap.lt_size hTI
        · rw [q]; exact Heap.lt_size hTO
        · rw [q]; obtain ⟨_, e1, _⟩ := h1.there; exact Heap.lt_size e1
        · rw [q]; obtain ⟨_, e2, _⟩ := h2.there; exact Heap.lt_size e2
      rw [upd_ne (Nat.ne_of_lt hlt)]
      exact (hf c hcm).1
  done := by
    intro X hP hw hK hc i pins s σ H E I hf st hg
    subst hP hw hK
    obtain ⟨hz, hTI, ⟨x0, y0, hTO⟩, h1, h2⟩ := st
    obtain ⟨xs, ys, hqx, hqy, le1, le2, hend⟩ := hg
    obtain ⟨its, rv, p⟩ := inv_seq I hqx
    obtain ⟨its2, rv2, p2⟩ := inv_seq I hqy
    have l1 := rv.length
    have l2 := rv2.length
    have hh : X.A.in1.handled = none := I.ok.hd hc
    exact wpAny_pyNext_zipD2_end D (draws_k hh k1 i1 a n1 its.toArray) (draws_k hh k2 i2 b n2 its2.toArray) hz hTI hTO ⟨h1, p⟩ ⟨h2, p2⟩ (by simp; omega) (by simp; omega) (by simp; omega) fun h' tk hk => ⟨rfl, I.turnedL (t' := tk) (ch := [z, TI, TO, i1, i2]) (fun c o hb q =>
      hk c o (fun q' => hb (by simp [q'])) (fun q' => hb (by simp [q'])) (fun q' => hb (by simp [q'])) (fun q' => hb (by simp [q'])) q) hf⟩
  self := fun A i s Q E st h => wpAny_pyIter_zip st.1 h

def iZipG (K : PySem.W.Frag) (ta : TA) : TI := fun σ H R => ta σ H fun vs H1 => ∃ a b k1 k2 xs ys, vs = [.ref a, .ref b] ∧ Sq K k1 H1 a xs ∧ Sq K k2 H1 b ys ∧ R (ItzG K k1 k2 a b) H1
theorem pi_zipG {X : Cx} {e e2 : Expr} {ta : TA} {p pos tpos : Pos} {elts : List Expr} {kk : Nat} (hg : Gl X "zip") (hm : X.mg "zip" = none) (ha : PA X [e, e2] ta)
    (hs : starEach [e, e2] X.env = (false, eval e X.env) :: starEach [e2] X.env := by rfl) (hpl : (backTo pos (starEach [e2] X.env)).any (·.1) = false := by rfl) :
    PI X (.Tuple elts kk tpos) (.Call (.Name "zip" p) [e, e2] [] pos) (iZipG X.K ta) := by
  refine ⟨fun pins s σ H R I h => ?_⟩
  refine Call_ (ld_blt I hg hm PyProof.Rows.boot_zip (PyProof.Rows.callWith_type1 (thn (ha.run pos pins s σ H _ I h) fun us s1 ⟨vs, H1, I1, r1, q1⟩ => ?_) hs hpl))
  obtain ⟨a, b, k1, k2, xs, ys, ex, hqx, hqy, q⟩ := q1
  subst ex
  cases r1 with
  | cons r rr =>
    cases rr with
    | cons r' rr =>
      cases rr
      cases r
      cases r'
      have fresh5 : ∀ c, c ∈ [s1.heap.objs.size + 4, s1.heap.objs.size + 2, s1.heap.objs.size + 3, s1.heap.objs.size, s1.heap.objs.size + 1] → FpOk X pins H1 c := fun c hcm => by
        have e' : c = s1.heap.objs.size + 4 ∨ c = s1.heap.objs.size + 2 ∨ c = s1.heap.objs.size + 3 ∨ c = s1.heap.objs.size ∨ c = s1.heap.objs.size + 1 := by simpa using hcm
        have hle : s1.heap.objs.size ≤ c := by
          rcases e' with z | z | z | z | z
          · rw [z]; exact Nat.le_add_right _ _
          · rw [z]; exact Nat.le_add_right _ _
          · rw [z]; exact Nat.le_add_right _ _
          · rw [z]; exact Nat.le_refl _
          · rw [z]; exact Nat.le_add_right _ _
        exact I1.fpOk hle (I1.hok.fresh hle)
      obtain ⟨its, rv, p1⟩ := inv_seq I1 hqx
      obtain ⟨its2, rv2, p2⟩ := inv_seq I1 hqy
      have ha1 := p1.lt
      have ha2 := p2.lt
      refine zip_begins2 (begins_k k1 a its.toArray) (begins_k k2 b its2.toArray) p1 p2 fun h' hz hTI hTO h1 h2 hsz hk => wpAny_pyIter_zip hz ?_
      have I2 : Inv X pins σ H1 { s1 with heap := h' } := I1.kept (t' := s1.toks) hk
      have S : ZipSep2 (s1.heap.objs.size + 4) (s1.heap.objs.size + 2) (s1.heap.objs.size + 3) s1.heap.objs.size (s1.heap.objs.size + 1) [s1.heap.objs.size, a] [s1.heap.objs.size + 1, b] :=
        zip_sep2 (fp1 := [a]) (fp2 := [b]) (fun c hc => by rw [List.mem_singleton.mp hc]; exact ha1) (fun c hc => by rw [List.mem_singleton.mp hc]; exact ha2)
      exact ⟨s1.heap.objs.size + 4, [s1.heap.objs.size + 4, s1.heap.objs.size + 2, s1.heap.objs.size + 3, s1.heap.objs.size, s1.heap.objs.size + 1], _, _, H1, rfl, I2, turn_zipG S (Nat.ne_of_lt ha1) (Nat.ne_of_lt (Nat.lt_succ_of_lt ha2)), ⟨hz, hTI, ⟨_, _, hTO⟩, itAt_new h1, itAt_new h2⟩, fresh5, q⟩
end RW

set_option Elab.async false
set_option linter.all false
set_option maxRecDepth 100000
set_option maxHeartbeats 4000000
namespace RW
open PySem PySem.Spec PyProof.Rows L2
theorem meets_enumerate_new1 {v : Value} {o : Obj} {H : Heap → Prop} (B : Begins v o H) :
    Meets (Builtin.«enumerate.__new__» ⟨[.type "enumerate", v], []⟩) (fun _ R s => H s.heap ∧
      R (.ok (.ret (.ref (s.heap.push o).objs.size))) { s with heap := (s.heap.push o).push { cls := .type "enumerate", data := .fields #[.none, .bool false, .ref s.heap.objs.size, rawInt 0, .none, .none] } }) :=
  .of_wp fun prog w A R s h => by
    obtain ⟨hp, g, d, tk, os⟩ := s; obtain ⟨h1, h⟩ := h
    have hsub := sub_enumerate
    have q1 : ∀ {A' : Around} {E : Value → Shared → Prop} {Q : Value → Shared → Prop}, Q (.ref hp.objs.size) ⟨hp.push o, g, d, tk, os⟩ → wpAny (model prog w) A' (pyIter v) Q E ⟨hp, g, d, tk, os⟩ :=
      fun q => B.iter prog w _ _ ⟨hp, g, d, tk, os⟩ _ h1 q
    wp_walk using q1
    refine wpAny_stack_any fun st => wpAny_pure ?_
    split
    · rename_i c _ _ _ _ _
      cases (c == Value.type "enumerate")
      · wp_walk using q1
        exact ⟨_, rfl, h⟩
      · wp_walk using q1
        exact ⟨_, rfl, h⟩
    · wp_walk using q1
      exact ⟨_, rfl, h⟩
section
variable {prog : Program} {w : World} {A : Around} {E : Value → Shared → Prop} {s : Shared}
theorem enum_begins1 {v : Value} {o : Obj} {H : Heap → Prop} {Q : Value → Shared → Prop} (B : Begins v o H) (h1 : H s.heap)
    (h : ∀ h', IsEnum h' (s.heap.objs.size + 1) s.heap.objs.size 0 .none → h'.get? s.heap.objs.size = some o → h'.objs.size = s.heap.objs.size + 2 →
      (∀ b o, s.heap.get? b = some o → h'.get? b = some o) → Q (.ref (s.heap.objs.size + 1)) { s with heap := h' }) :
    wpAny (model prog w) A (call (.type "enumerate") [v]) Q E s := by
  refine callType_new F.called_enumerate (by decide) (F.typeCall_enumerate_1 _) (F.newCall_enumerate_1 _) (fun obj => F.args_object_init_2 obj _) F.entry_enumerate_new
    (meets_enumerate_new1 B) ⟨h1, ?_⟩
  have hz : (s.heap.push o).objs.size = s.heap.objs.size + 1 := Heap.size_push ..
  show _ ∧ _
  rw [hz]
  have he : IsEnum ((s.heap.push o).push { cls := .type "enumerate", data := .fields #[.none, .bool false, .ref s.heap.objs.size, rawInt 0, .none, .none] }) (s.heap.objs.size + 1) s.heap.objs.size 0 .none := by
    have := Heap.get?_push_size (s.heap.push o) (o := { cls := .type "enumerate", data := .fields #[.none, .bool false, .ref s.heap.objs.size, rawInt 0, .none, .none] }) rfl
    rw [hz] at this; exact this
  refine ⟨⟨_, he, rfl⟩, h _ he (Heap.get?_push_of_some _ (Heap.get?_push_size _ B.free)) (by rw [Heap.size_push, hz]) fun b o x => Heap.get?_push_of_some _ (Heap.get?_push_of_some _ x)⟩
end
def IteG (K : PySem.W.Frag) (k : Bool) (a : Addr) : It :=
  ⟨fun i H => ∃ (xs : List V) (x : V), Sq K k H a xs ∧ xs[i]? = some x, fun i H v H' => ∃ T x, v = .ref T ∧ H T = none ∧ H' = upd H T (.tup [.int (i : Nat), x]) ∧ ∀ xs, Sq K k H a xs → xs[i]? = some x, fun i H => ∃ xs : List V, Sq K k H a xs ∧ xs.length = i⟩
theorem turn_enumG {P : Program} {w : World} {K : PySem.W.Frag} {elts : List Expr} {kk : Nat} {tpos : Pos} {k : Bool} {a e it : Addr} (hne : e ≠ it) (hea : a ≠ e) (hia : a ≠ it) :
    Turn P w K (.Tuple elts kk tpos) (IteG K k a) [e, it] e (fun i h => (∃ old, IsEnum h e it ((i : Nat) : Int) old) ∧ itAt k h it a i) where
  mem := by simp
  obj := fun i h st b hb => by
    obtain ⟨⟨old, he⟩, hi⟩ := st
    have e' : b = e ∨ b = it := by simpa using hb
    rcases e' with z | z
    · rw [z]; exact ⟨_, he, fun v q => nomatch q⟩
    · rw [z]; exact hi.there
  keep := fun i h h' st k => let ⟨⟨old, he⟩, hi⟩ := st; ⟨⟨old, k e (by simp) _ he⟩, hi.at fun o q => k it (by simp) o q⟩
  item := by
    intro X hP hw hK hc i pins s σ H E I hf st hg
    subst hP hw hK
    obtain ⟨⟨old, he⟩, hit⟩ := st
    obtain ⟨xs, x, hq, hx⟩ := hg
    obtain ⟨its, rv, p⟩ := inv_seq I hq
    obtain ⟨u, hu, ru⟩ := rv.get hx
    have hel : e < s.heap.objs.size := Heap.lt_size he
    have hil : it < s.heap.objs.size := by obtain ⟨_, q, _⟩ := hit.there; exact Heap.lt_size q
    have hh : X.A.in1.handled = none := I.ok.hd hc
    have l1 : i < its.toArray.size := by
      have := (List.getElem?_eq_some_iff.mp hu).1
      simpa using this
    refine wpAny_pyNext_enum_itemC (draws_k hh k it a hia its.toArray) he ⟨hit, p⟩ l1 hne (by simp [hne, Ne.symm hea]) fun v1 h' tk e1 ho hst' hT hsz hk => ?_
    have e1' : v1 = u := by
      have q : its[i]? = some v1 := by simpa using e1
      rw [hu] at q
      exact (Option.some.inj q).symm
    subst e1'
    refine ⟨_, rfl, wpAny_letOwnedTupleGo_enum (s := { s with heap := h', toks := tk + 1 }) ho fun h'' he' sb => ?_⟩
    have hT2 : h''.get? s.heap.objs.size = some { cls := .type "tuple", data := .seq #[.int i tk, v1] } := (sb.2 _ (Nat.ne_of_gt hel)).trans hT
    have new : ObjOk X.prog X.w (upd H s.heap.objs.size (.tup [.int (i : Nat), x])) h'' s.heap.objs.size (.tup [.int (i : Nat), x]) :=
      ⟨by show 2 ≤ sizeLine; decide, [.int i tk, v1], .cons ⟨_, rfl⟩ (.cons ru .nil), ⟨_, hT2, rfl, _, rfl⟩⟩
    have I1 : Inv X pins σ (upd H s.heap.objs.size (.tup [.int (i : Nat), x])) { s with heap := h'', toks := tk + 1 } :=
      I.turnedNew (ch := [e, it]) (fun b ob hb q => (sb.2 b (fun z => hb (by simp [z]))).trans (hk b ob (fun z => hb (by simp [z])) (fun z => hb (by simp [z])) q)) hf (Nat.le_refl _) new
    refine ⟨.ref s.heap.objs.size, _, I1, rfl, ⟨_, x, rfl, I.hok.fresh (Nat.le_refl _), rfl, fun ys hy => by rw [inv_inj I hy hq]; exact hx⟩, ⟨⟨v1, ?_⟩, hst'.1.at fun o q => (sb.2 it (Ne.symm hne)).trans q⟩, fun b hb => ?_⟩
    · have e1 : ((i + 1 : Nat) : Int) = (i : Int) + 1 := by omega
      rw [e1]; exact he'
    · have hb' : b < s.heap.objs.size := by
        have e' : b = e ∨ b = it := by simpa using hb
        rcases e' with z | z
        · rw [z]; exact hel
        · rw [z]; exact hil
      rw [upd_ne (Nat.ne_of_lt hb')]
      exact (hf b hb).1
  done := by
    intro X hP hw hK hc i pins s σ H E I hf st hg
    subst hP hw hK
    obtain ⟨⟨old, he⟩, hit⟩ := st
    obtain ⟨xs, hq, hx⟩ := hg
    obtain ⟨its, rv, p⟩ := inv_seq I hq
    obtain ⟨f0, f1, f2, f3, f4, f5⟩ := hf it (by simp)
    have hh : X.A.in1.handled = none := I.ok.hd hc
    have hl := rv.length
    have hi : its.toArray.size = i := by simp; omega
    subst hi
    exact wpAny_pyNext_enum_endD (draws_k hh k it a hia its.toArray) he ⟨hit, p⟩ fun h' eb => ⟨rfl, I.turned (t' := s.toks) (fun b o hb q => eb b o hb q) f0 f1 f3 f4 f5⟩
  self := fun A i s Q E st h => let ⟨⟨_, he⟩, _⟩ := st; wpAny_pyIter_enum he h
def iEnumG (K : PySem.W.Frag) (ta : TA) : TI := fun σ H R => ta σ H fun vs H1 => ∃ a k xs, vs = [.ref a] ∧ Sq K k H1 a xs ∧ R (IteG K k a) H1
theorem pi_enumG {X : Cx} {e : Expr} {ta : TA} {p pos tpos : Pos} {elts : List Expr} {kk : Nat} (hg : Gl X "enumerate") (hm : X.mg "enumerate" = none) (ha : PA X [e] ta) (hs : starEach [e] X.env = [(false, eval e X.env)] := by rfl) :
    PI X (.Tuple elts kk tpos) (.Call (.Name "enumerate" p) [e] [] pos) (iEnumG X.K ta) := by
  refine ⟨fun pins s σ H R I h => ?_⟩
  refine Call_ (ld_blt I hg hm boot_enumerate (PyProof.Rows.callWith_type1 (thn (ha.run pos pins s σ H _ I h) fun us s1 ⟨vs, H1, I1, r1, q1⟩ => ?_) hs rfl))
  obtain ⟨a, k, xs, ex, hq, q⟩ := q1
  subst ex
  cases r1 with
  | cons r rr =>
    cases rr
    cases r
    obtain ⟨its, rv, p'⟩ := inv_seq I1 hq
    have hal := p'.lt
    refine enum_begins1 (begins_k k a its.toArray) p' fun h' he hit hsz hk => wpAny_pyIter_enum he ?_
    have I2 : Inv X pins σ H1 { s1 with heap := h' } := I1.kept (t' := s1.toks) hk
    refine ⟨s1.heap.objs.size + 1, [s1.heap.objs.size + 1, s1.heap.objs.size], _, _, H1, rfl, I2, turn_enumG (e := s1.heap.objs.size + 1) (it := s1.heap.objs.size) (Nat.succ_ne_self _) (Nat.ne_of_lt (Nat.lt_succ_of_lt hal)) (Nat.ne_of_lt hal), ⟨⟨.none, he⟩, itAt_new hit⟩, fun b hb => ?_, q⟩
    have e' : b = s1.heap.objs.size + 1 ∨ b = s1.heap.objs.size := by simpa using hb
    have hle : s1.heap.objs.size ≤ b := by
      rcases e' with z | z
      · rw [z]; exact Nat.le_add_right _ _
      · rw [z]; exact Nat.le_refl _
    exact I1.fpOk hle (I1.hok.fresh hle)
end RW

set_option Elab.async false
set_option linter.all false
set_option maxRecDepth 100000
set_option maxHeartbeats 4000000
namespace RW
open PySem PySem.Spec PyProof.Rows L2
open Evl (Ex)

/-! ### data: what a value is, whatever its address -/
inductive Dat where
  | non | bl (b : Bool) | int (i : Int) | str (s : Str) | ty (n : String)
  | tup (xs : List Dat) | lst (xs : List Dat) | scr (ns : List Int)
  | ins (C : Addr) (fs : List (Str × Dat))
  | adr (a : Addr)
  | dic (ks : List (List Int))
  | cel (j : Nat)
  | tab (P : Addr) (q : Str)
  | dd
mutual
inductive Rep (K : PySem.W.Frag) (B : Hp) : V → Dat → Prop
  | non : Rep K B .non .non
  | bl (b : Bool) : Rep K B (.bl b) (.bl b)
  | int (i : Int) : Rep K B (.int i) (.int i)
  | str (s : Str) : Rep K B (.str s) (.str s)
  | ty (n : String) : Rep K B (.ty n) (.ty n)
  | tup {a : Addr} {xs : List V} {ds : List Dat} : SqT K B a xs → Reps K B xs ds → Rep K B (.ref a) (.tup ds)
  | lst {a : Addr} {xs : List V} {ds : List Dat} : B a = some (.lst xs) → Reps K B xs ds → Rep K B (.ref a) (.lst ds)
  | scr {a : Addr} {ns : List Int} : SqL K B a (ns.map V.int) → Rep K B (.ref a) (.scr ns)
  | ins {a C dx : Addr} {vs : List (Str × V)} {fs : List (Str × Dat)} : B a = some (.ins C dx vs) → RepF K B vs fs → Rep K B (.ref a) (.ins C fs)
  | adr (a : Addr) : Rep K B (.ref a) (.adr a)
  | dd {a : Addr} : B a = some (.dT []) → Rep K B (.ref a) .dd
inductive Reps (K : PySem.W.Frag) (B : Hp) : List V → List Dat → Prop
  | nil : Reps K B [] []
  | cons {v : V} {d : Dat} {vs : List V} {ds : List Dat} : Rep K B v d → Reps K B vs ds → Reps K B (v :: vs) (d :: ds)
inductive RepF (K : PySem.W.Frag) (B : Hp) : List (Str × V) → List (Str × Dat) → Prop
  | nil : RepF K B [] []
  | cons {f : Str} {v : V} {d : Dat} {vs : List (Str × V)} {ds : List (Str × Dat)} : Rep K B v d → RepF K B vs ds → RepF K B ((f, v) :: vs) ((f, d) :: ds)
  | cel {f : Str} {v : V} {j : Nat} {vs : List (Str × V)} {ds : List (Str × Dat)} : RepF K B vs ds → RepF K B ((f, v) :: vs) ((f, .cel j) :: ds)
end
section
variable {K : PySem.W.Frag} {B B' : Hp}
mutual
theorem Rep.mono (e : Ex B B') : ∀ {v : V} {d : Dat}, Rep K B v d → Rep K B' v d
  | _, _, .non => .non
  | _, _, .bl b => .bl b
  | _, _, .int i => .int i
  | _, _, .str s => .str s
  | _, _, .ty n => .ty n
  | _, _, .tup h r => .tup (Evl.ex_t e h) (Reps.mono e r)
  | _, _, .lst h r => .lst (e _ _ h) (Reps.mono e r)
  | _, _, .scr h => .scr (Evl.ex_l e h)
  | _, _, .ins h r => .ins (e _ _ h) (RepF.mono e r)
  | _, _, .adr a => .adr a
  | _, _, .dd h => .dd (e _ _ h)
theorem Reps.mono (e : Ex B B') : ∀ {v : List V} {d : List Dat}, Reps K B v d → Reps K B' v d
  | _, _, .nil => .nil
  | _, _, .cons h r => .cons (Rep.mono e h) (Reps.mono e r)
theorem RepF.mono (e : Ex B B') : ∀ {v : List (Str × V)} {d : List (Str × Dat)}, RepF K B v d → RepF K B' v d
  | _, _, .nil => .nil
  | _, _, .cons h r => .cons (Rep.mono e h) (RepF.mono e r)
  | _, _, .cel r => .cel (RepF.mono e r)
end
theorem Reps.length : ∀ {vs : List V} {ds : List Dat}, Reps K B vs ds → vs.length = ds.length
  | _, _, .nil => rfl
  | _, _, .cons _ r => by rw [List.length_cons, List.length_cons, Reps.length r]
theorem Reps.get : ∀ {vs : List V} {ds : List Dat} {i : Nat} {d : Dat}, Reps K B vs ds → ds[i]? = some d → ∃ v, vs[i]? = some v ∧ Rep K B v d
  | _, _, _, _, .nil, e => by simp at e
  | _, _, 0, _, .cons h _, e => by simp at e; subst e; exact ⟨_, rfl, h⟩
  | _, _, i + 1, d, .cons _ r, e => by
    obtain ⟨v, h1, h2⟩ := Reps.get (i := i) (d := d) r (by simpa using e)
    exact ⟨v, by simpa using h1, h2⟩
theorem Reps.get' : ∀ {vs : List V} {ds : List Dat} {i : Nat} {v : V}, Reps K B vs ds → vs[i]? = some v → ∃ d, ds[i]? = some d ∧ Rep K B v d
  | _, _, _, _, .nil, e => by simp at e
  | _, _, 0, _, .cons h _, e => by simp at e; subst e; exact ⟨_, rfl, h⟩
  | _, _, i + 1, v, .cons _ r, e => by
    obtain ⟨d, h1, h2⟩ := Reps.get' (i := i) (v := v) r (by simpa using e)
    exact ⟨d, by simpa using h1, h2⟩
theorem Reps.append : ∀ {vs ws : List V} {ds es : List Dat}, Reps K B vs ds → Reps K B ws es → Reps K B (vs ++ ws) (ds ++ es)
  | _, _, _, _, .nil, h => h
  | _, _, _, _, .cons h r, q => .cons h (Reps.append r q)
theorem Reps.take : ∀ {vs : List V} {ds : List Dat} (n : Nat), Reps K B vs ds → Reps K B (vs.take n) (ds.take n)
  | _, _, 0, _ => .nil
  | _, _, _ + 1, .nil => .nil
  | _, _, n + 1, .cons h r => .cons h (Reps.take n r)
theorem Reps.drop : ∀ {vs : List V} {ds : List Dat} (n : Nat), Reps K B vs ds → Reps K B (vs.drop n) (ds.drop n)
  | _, _, 0, r => r
  | _, _, _ + 1, .nil => .nil
  | _, _, n + 1, .cons _ r => Reps.drop n r
theorem Reps.set : ∀ {vs : List V} {ds : List Dat} {v : V} {d : Dat} (n : Nat), Rep K B v d → Reps K B vs ds → Reps K B (vs.set n v) (ds.set n d)
  | _, _, _, _, _, _, .nil => .nil
  | _, _, _, _, 0, h, .cons _ r => .cons h r
  | _, _, _, _, n + 1, h, .cons q r => .cons q (Reps.set n h r)
theorem Reps.ints : ∀ {vs : List V} {ns : List Int}, Reps K B vs (ns.map Dat.int) → vs = ns.map V.int
  | _, [], .nil => rfl
  | _, n :: ns, .cons h r => by
    cases h
    rw [List.map_cons, Reps.ints r]
theorem Reps.bls : ∀ {vs : List V} {ns : List Bool}, Reps K B vs (ns.map Dat.bl) → vs = ns.map V.bl
  | _, [], .nil => rfl
  | _, n :: ns, .cons h r => by
    cases h
    rw [List.map_cons, Reps.bls r]
theorem RepF.get : ∀ {vs : List (Str × V)} {fs : List (Str × Dat)} {f : Str} {d : Dat}, RepF K B vs fs → fs.lookup f = some d → (∀ j, d ≠ .cel j) → ∃ v, vs.lookup f = some v ∧ Rep K B v d
  | _, _, _, _, .nil, e, _ => by cases e
  | _, _, f, d, .cons (f := g) (vs := vs) (ds := ds) h r, e, hd => by
    by_cases q : (f == g) = true
    · simp only [List.lookup, q] at e ⊢
      cases e
      exact ⟨_, rfl, h⟩
    · have q' : (f == g) = false := by simpa using q
      simp only [List.lookup, q'] at e ⊢
      exact RepF.get r e hd
  | _, _, f, d, .cel (f := g) (j := j) r, e, hd => by
    by_cases q : (f == g) = true
    · simp only [List.lookup, q] at e
      cases e
      exact absurd rfl (hd j)
    · have q' : (f == g) = false := by simpa using q
      simp only [List.lookup, q'] at e ⊢
      exact RepF.get r e hd
end

/-! ### what a slot or an argument is: data, or a list that is changed (by its number) -/
inductive Sl where
  | d (x : Dat)
  | c (k : Nat)
def RepS (K : PySem.W.Frag) (B : Hp) (as : List Addr) (v : V) : Sl → Prop
  | .d x => Rep K B v x
  | .c k => ∃ a, as[k]? = some a ∧ v = .ref a
inductive RepSs (K : PySem.W.Frag) (B : Hp) (as : List Addr) : List V → List Sl → Prop
  | nil : RepSs K B as [] []
  | cons {v : V} {s : Sl} {vs : List V} {ss : List Sl} : RepS K B as v s → RepSs K B as vs ss → RepSs K B as (v :: vs) (s :: ss)
abbrev Env1 := List (Option Sl)
def EnvR (K : PySem.W.Frag) (B : Hp) (as : List Addr) (σ : L2.St) (env : Env1) : Prop :=
  σ.length = env.length ∧ ∀ (i : Nat) (s : Sl), env[i]? = some (some s) → ∃ v, σ[i]? = some (some v) ∧ RepS K B as v s
/-- what stands at a changed thing -/
def CellO (K : PySem.W.Frag) (B : Hp) : HO → Dat → Prop
  | .lst vs, .lst ds => Reps K B vs ds
  | .ins C _ vs, .ins C' fs => C = C' ∧ RepF K B vs fs
  | .dT kvs, .dic ks => kvs.map (·.1) = ks.map fun k => k.map Sum.inl
  | .tbl ps, .tab _ q => TriplesOk ps.toList ∧ ∀ (pos : Pos) (cv : Value), codeAmong pos ps.toList = some cv → ∃ c, cv = .ref c ∧ B c = some (LamX.CodeO c q)
  | _, _ => False
def CellAt (K : PySem.W.Frag) (B H : Hp) (a : Addr) (s : Dat) : Prop := ∃ o, H a = some o ∧ CellO K B o s
theorem CellO.mono {K : PySem.W.Frag} {B B' : Hp} {o : HO} {s : Dat} (e : Ex B B') (h : CellO K B o s) : CellO K B' o s := by
  unfold CellO at h ⊢
  split at h <;> first
    | exact h.elim
    | exact Reps.mono e h
    | exact ⟨h.1, RepF.mono e h.2⟩
    | exact ⟨h.1, fun pos cv hc => let ⟨c, h1, h2⟩ := h.2 pos cv hc; ⟨c, h1, e _ _ h2⟩⟩
    | exact h
theorem CellAt.lst {K : PySem.W.Frag} {B H : Hp} {a : Addr} {ds : List Dat} (h : CellAt K B H a (.lst ds)) : ∃ vs, H a = some (.lst vs) ∧ Reps K B vs ds := by
  obtain ⟨o, h1, h2⟩ := h
  cases o <;> first
    | exact h2.elim
    | exact ⟨_, h1, h2⟩
theorem CellAt.ins {K : PySem.W.Frag} {B H : Hp} {a C : Addr} {fs : List (Str × Dat)} (h : CellAt K B H a (.ins C fs)) : ∃ dx vs, H a = some (.ins C dx vs) ∧ RepF K B vs fs := by
  obtain ⟨o, h1, h2⟩ := h
  cases o <;> first
    | exact h2.elim
    | (obtain ⟨rfl, h2⟩ := h2; exact ⟨_, _, h1, h2⟩)
theorem CellAt.dic {K : PySem.W.Frag} {B H : Hp} {a : Addr} {ks : List (List Int)} (h : CellAt K B H a (.dic ks)) : ∃ kvs, H a = some (.dT kvs) ∧ kvs.map (·.1) = ks.map fun k => k.map Sum.inl := by
  obtain ⟨o, h1, h2⟩ := h
  cases o <;> first
    | exact h2.elim
    | exact ⟨_, h1, h2⟩
theorem CellAt.ofL {K : PySem.W.Frag} {B H : Hp} {a : Addr} {vs : List V} {ds : List Dat} (h : H a = some (.lst vs)) (r : Reps K B vs ds) : CellAt K B H a (.lst ds) := ⟨_, h, r⟩
theorem CellAt.ofI {K : PySem.W.Frag} {B H : Hp} {a C dx : Addr} {vs : List (Str × V)} {fs : List (Str × Dat)} (h : H a = some (.ins C dx vs)) (r : RepF K B vs fs) : CellAt K B H a (.ins C fs) := ⟨_, h, rfl, r⟩
/-- fields that tell of changed things ahead of this one -/
def LkO (as : List Addr) (k : Nat) (o : HO) (s : Dat) : Prop := ∀ C fs f j, s = .ins C fs → fs.lookup f = some (.cel j) → j < k → ∃ b dx vs, as[j]? = some b ∧ o = .ins C dx vs ∧ vs.lookup f = some (.ref b)
structure Ok (K : PySem.W.Frag) (B H : Hp) (as : List Addr) (S : List Dat) : Prop where
  ex : Ex B H
  len : as.length = S.length
  cells : ∀ (k : Nat) (a : Addr) (s : Dat), as[k]? = some a → S[k]? = some s → B a = none ∧ CellAt K B H a s
  nd : as.Nodup
  lk : ∀ (k : Nat) (a : Addr) (s : Dat) (o : HO), as[k]? = some a → S[k]? = some s → H a = some o → LkO as k o s
  ntb : ∀ (a : Addr) (ps : Array Value), B a ≠ some (.tbl ps)
  tb : ∀ (k : Nat) (P : Addr) (q : Str), S[k]? = some (.tab P q) → as[k]? = some P
/-- what never changes: tuples, codes of lambdas -/
def Fixd (o : HO) : Prop := (∃ xs, o = .tup xs) ∨ ∃ a q, o = LamX.CodeO a q
theorem Fixd.lst {xs : List V} (h : Fixd (.lst xs)) : False := by
  rcases h with ⟨_, h⟩ | ⟨_, _, h⟩
  · cases h
  · unfold LamX.CodeO at h; cases h
theorem Fixd.ins {C dx : Addr} {xs : List (Str × V)} (h : Fixd (.ins C dx xs)) : False := by
  rcases h with ⟨_, h⟩ | ⟨_, _, h⟩
  · cases h
  · unfold LamX.CodeO at h; cases h
theorem Fixd.dT {xs : List (List L2.Key × V)} (h : Fixd (.dT xs)) : False := by
  rcases h with ⟨_, h⟩ | ⟨_, _, h⟩
  · cases h
  · unfold LamX.CodeO at h; cases h
theorem Fixd.tbl {xs : Array Value} (h : Fixd (.tbl xs)) : False := by
  rcases h with ⟨_, h⟩ | ⟨_, _, h⟩
  · cases h
  · unfold LamX.CodeO at h; cases h
def Nn (H : Hp) (a : Addr) : Prop := ∀ o, H a = some o → ∃ ps, o = .tbl ps
theorem Nn.of {H : Hp} {a : Addr} (h : H a = none) : Nn H a := fun o q => by rw [h] at q; cases q
theorem Nn.no {H : Hp} {a : Addr} {o : HO} (h : Nn H a) (q : H a = some o) (nt : ∀ ps, o ≠ .tbl ps) : False := by
  obtain ⟨ps, e⟩ := h o q
  exact nt ps e
/-- p is new: nothing of what was known or changed -/
def Fresh (H : Hp) (as : List Addr) (p : Addr) : Prop := p ∉ as ∧ Nn H p
structure Evo (B H : Hp) (as : List Addr) (B' H' : Hp) : Prop where
  ex : Ex B B'
  fr : ∀ a o, a ∉ as → H a = some o → (∀ ps, o ≠ .tbl ps) → H' a = some o
  gr : ∀ a o, H a = some o → (∀ ps, o ≠ .tbl ps) → B' a = B a ∨ ∃ o', Fixd o' ∧ H' a = some o'
  tp : ∀ a o, Fixd o → H a = some o → H' a = some o
  pr : ∀ a o, H a = some o → (∀ ps, o ≠ .tbl ps) → ∃ o', H' a = some o' ∧ ∀ ps, o' ≠ .tbl ps
section
variable {K : PySem.W.Frag} {B B' B1 B2 H H' H1 H2 : Hp} {as as' : List Addr} {S S' : List Dat} {σ : L2.St} {env : Env1} {v : V} {s : Sl}
theorem RepS.mono (e : Ex B B') (h : RepS K B as v s) : RepS K B' as v s := by
  cases s with
  | d x => exact Rep.mono e h
  | c k => exact h
theorem RepS.grow {as1 : List Addr} (h : RepS K B as v s) : RepS K B (as ++ as1) v s := by
  cases s with
  | d x => exact h
  | c k =>
    obtain ⟨a, q, e⟩ := h
    exact ⟨a, by rw [List.getElem?_append_left (List.getElem?_eq_some_iff.mp q).1]; exact q, e⟩
theorem RepSs.mono (e : Ex B B') : ∀ {vs : List V} {ss : List Sl}, RepSs K B as vs ss → RepSs K B' as vs ss
  | _, _, .nil => .nil
  | _, _, .cons h r => .cons (h.mono e) (RepSs.mono e r)
theorem RepSs.append : ∀ {vs ws : List V} {ss ts : List Sl}, RepSs K B as vs ss → RepSs K B as ws ts → RepSs K B as (vs ++ ws) (ss ++ ts)
  | _, _, _, _, .nil, h => h
  | _, _, _, _, .cons h r, q => .cons h (RepSs.append r q)
theorem RepSs.length : ∀ {vs : List V} {ss : List Sl}, RepSs K B as vs ss → vs.length = ss.length
  | _, _, .nil => rfl
  | _, _, .cons _ r => by rw [List.length_cons, List.length_cons, RepSs.length r]
theorem RepSs.get : ∀ {vs : List V} {ss : List Sl} {i : Nat} {s : Sl}, RepSs K B as vs ss → ss[i]? = some s → ∃ v, vs[i]? = some v ∧ RepS K B as v s
  | _, _, _, _, .nil, e => by simp at e
  | _, _, 0, _, .cons h _, e => by simp at e; subst e; exact ⟨_, rfl, h⟩
  | _, _, i + 1, s, .cons _ r, e => by
    obtain ⟨v, h1, h2⟩ := RepSs.get (i := i) (s := s) r (by simpa using e)
    exact ⟨v, by simpa using h1, h2⟩
theorem RepSs.ds : ∀ {vs : List V} {ds : List Dat}, RepSs K B as vs (ds.map Sl.d) → Reps K B vs ds
  | _, [], .nil => .nil
  | _, d :: ds, .cons h r => .cons h (RepSs.ds r)
theorem EnvR.mono (e : Ex B B') (h : EnvR K B as σ env) : EnvR K B' as σ env :=
  ⟨h.1, fun i s q => by obtain ⟨v, q1, q2⟩ := h.2 i s q; exact ⟨v, q1, q2.mono e⟩⟩
theorem EnvR.grow {as1 : List Addr} (h : EnvR K B as σ env) : EnvR K B (as ++ as1) σ env :=
  ⟨h.1, fun i s q => by obtain ⟨v, q1, q2⟩ := h.2 i s q; exact ⟨v, q1, q2.grow⟩⟩
theorem EnvR.set (i : Nat) (h : EnvR K B as σ env) (hv : RepS K B as v s) : EnvR K B as (σ.set i (some v)) (env.set i (some s)) := by
  refine ⟨by rw [List.length_set, List.length_set, h.1], fun j t q => ?_⟩
  by_cases e : i = j
  · subst e
    have hi : i < env.length := by
      have := (List.getElem?_eq_some_iff.mp q).1
      rw [List.length_set] at this
      exact this
    rw [List.getElem?_set_self hi] at q
    cases q
    exact ⟨v, by rw [List.getElem?_set_self (by rw [h.1]; exact hi)], hv⟩
  · rw [List.getElem?_set_ne e] at q
    obtain ⟨w, q1, q2⟩ := h.2 j t q
    exact ⟨w, by rw [List.getElem?_set_ne e]; exact q1, q2⟩
theorem EnvR.unset (i : Nat) (h : EnvR K B as σ env) : EnvR K B as (σ.set i none) (env.set i none) := by
  refine ⟨by rw [List.length_set, List.length_set, h.1], fun j t q => ?_⟩
  by_cases e : i = j
  · subst e
    have hi : i < env.length := by
      have := (List.getElem?_eq_some_iff.mp q).1
      rw [List.length_set] at this
      exact this
    rw [List.getElem?_set_self hi] at q
    cases q
  · rw [List.getElem?_set_ne e] at q
    obtain ⟨w, q1, q2⟩ := h.2 j t q
    exact ⟨w, by rw [List.getElem?_set_ne e]; exact q1, q2⟩
theorem EnvR.forget (i : Nat) (x : Option V) (h : EnvR K B as σ env) : EnvR K B as (σ.set i x) (env.set i none) := by
  refine ⟨by rw [List.length_set, List.length_set, h.1], fun j t q => ?_⟩
  by_cases e : i = j
  · subst e
    have hi : i < env.length := by
      have := (List.getElem?_eq_some_iff.mp q).1
      rw [List.length_set] at this
      exact this
    rw [List.getElem?_set_self hi] at q
    cases q
  · rw [List.getElem?_set_ne e] at q
    obtain ⟨w, q1, q2⟩ := h.2 j t q
    exact ⟨w, by rw [List.getElem?_set_ne e]; exact q1, q2⟩
theorem EnvR.start {N : List Str} {vs : List V} {ss : List Sl} (h : RepSs K B as vs ss) : EnvR K B as (start N vs) (ss.map some ++ List.replicate (N.length - ss.length) none) := by
  unfold L2.start
  refine ⟨by rw [List.length_append, List.length_append, List.length_map, List.length_map, List.length_replicate, List.length_replicate, h.length], fun i s q => ?_⟩
  by_cases hi : i < ss.length
  · rw [List.getElem?_append_left (by simpa using hi), List.getElem?_map] at q
    cases e : ss[i]? with
    | none => rw [e] at q; cases q
    | some t =>
      rw [e] at q
      cases q
      obtain ⟨v, q1, q2⟩ := h.get e
      refine ⟨v, ?_, q2⟩
      rw [List.getElem?_append_left (by rw [List.length_map, h.length]; exact hi), List.getElem?_map, q1]
      rfl
  · rw [List.getElem?_append_right (by simpa using hi), List.getElem?_replicate] at q
    split at q <;> cases q
def wipeE (env : Env1) : List Nat → Env1
  | [] => env
  | v :: vs => (wipeE env vs).set v none
theorem EnvR.wipe (h : EnvR K B as σ env) : ∀ vs : List Nat, EnvR K B as (L2.wipe σ vs) (wipeE env vs)
  | [] => h
  | v :: vs => (EnvR.wipe h vs).unset v
theorem Evo.refl : Evo B H as B H := ⟨Evl.Ex.refl B, fun _ _ _ h _ => h, fun _ _ _ _ => .inl rfl, fun _ _ _ h => h, fun _ o h nt => ⟨o, h, nt⟩⟩
theorem Evo.trans (a : Evo B H as B1 H1) (b : Evo B1 H1 as B2 H2) : Evo B H as B2 H2 :=
  ⟨a.ex.trans b.ex, fun x o n h nt => b.fr x o n (a.fr x o n h nt) nt, fun x o h nt => let ⟨o1, h1, n1⟩ := a.pr x o h nt; (b.gr x o1 h1 n1).elim (fun e => (a.gr x o h nt).elim (fun e2 => .inl (e.trans e2)) fun ⟨o, fo, h⟩ => .inr ⟨o, fo, b.tp x o fo h⟩) .inr, fun x o fo h => b.tp x o fo (a.tp x o fo h), fun x o h nt => let ⟨o1, h1, n1⟩ := a.pr x o h nt; b.pr x o1 h1 n1⟩
/-- a new object, known from then on -/
theorem Ok.new {p : Addr} {o : HO} (c : Ok K B H as S) (hp : H p = none) (ho : ∀ ps, o ≠ .tbl ps := by exact fun _ z => nomatch z) : Ok K (upd B p o) (upd H p o) as S where
  ex := fun a u e => by
    by_cases q : a = p
    · subst q; rw [upd_same] at e ⊢; exact e
    · rw [upd_ne q] at e ⊢; exact c.ex a u e
  len := c.len
  cells := fun k a s h1 h2 => by
    obtain ⟨q1, q2⟩ := c.cells k a s h1 h2
    have hB : Ex B (upd B p o) := Evl.Ex.new (by
      cases e : B p with
      | none => rfl
      | some u => rw [c.ex p u e] at hp; cases hp)
    have ne : a ≠ p := by
      intro z
      subst z
      obtain ⟨o, q3, _⟩ := q2; rw [hp] at q3; cases q3
    rw [upd_ne ne]
    refine ⟨q1, ?_⟩
    obtain ⟨o, q3, q4⟩ := q2
    exact ⟨o, by rw [upd_ne ne]; exact q3, q4.mono hB⟩
  nd := c.nd
  lk := fun k a s o h1 h2 h3 => by
    have ne : a ≠ p := by
      rintro rfl
      obtain ⟨_, _, q3, _⟩ := c.cells k a s h1 h2
      rw [hp] at q3; cases q3
    rw [upd_ne ne] at h3
    exact c.lk k a s o h1 h2 h3
  tb := c.tb
  ntb := fun a ps e => by
    by_cases q : a = p
    · subst q; rw [upd_same] at e; exact ho ps (Option.some.inj e)
    · rw [upd_ne q] at e; exact c.ntb a ps e
theorem Ok.Bnone {p : Addr} (c : Ok K B H as S) (hp : H p = none) : B p = none := by
  cases e : B p with
  | none => rfl
  | some u => rw [c.ex p u e] at hp; cases hp
theorem Evo.new {p : Addr} {o : HO} (c : Ok K B H as S) (hp : H p = none) : Evo B H as (upd B p o) (upd H p o) :=
  ⟨Evl.Ex.new (c.Bnone hp), fun a u _ h _ => by rw [upd_ne (ne_of_none h hp)]; exact h, fun a o h _ => .inl (upd_ne (ne_of_none h hp)), fun a xs _ h => by rw [upd_ne (ne_of_none h hp)]; exact h, fun a o h nt => ⟨o, by rw [upd_ne (ne_of_none h hp)]; exact h, nt⟩⟩
end
end RW

set_option Elab.async false
set_option linter.all false
set_option maxRecDepth 100000
set_option maxHeartbeats 4000000
namespace RW
open PySem PySem.Spec PyProof.Rows L2
open Evl (Ex)

/-! ### what an expression gives -/
def Ev (K : PySem.W.Frag) (te : TE) (env : Env1) (S : List Dat) (r : Sl) (S' : List Dat) : Prop :=
  ∀ B H as σ, Ok K B H as S → EnvR K B as σ env → ∀ Q : VK, (∀ v B' H', Ok K B' H' as S' → Evo B H as B' H' → RepS K B' as v r → Q v H') → te σ H Q
/-- a new list that nothing else knows -/
def EvN (K : PySem.W.Frag) (te : TE) (env : Env1) (S : List Dat) (ds : List Dat) (S' : List Dat) : Prop :=
  ∀ B H as σ, Ok K B H as S → EnvR K B as σ env → ∀ Q : VK, (∀ p B' H' vs, Ok K B' H' as S' → Evo B H as B' H' → Fresh H as p → B' p = none → H' p = some (.lst vs) → Reps K B' vs ds → Q (.ref p) H') → te σ H Q
def EvT (K : PySem.W.Frag) (tt : TT) (env : Env1) (S : List Dat) (b : Bool) (S' : List Dat) : Prop :=
  ∀ B H as σ, Ok K B H as S → EnvR K B as σ env → ∀ Q : Bool → Hp → Prop, (∀ B' H', Ok K B' H' as S' → Evo B H as B' H' → Q b H') → tt σ H Q
def EvA (K : PySem.W.Frag) (ta : TA) (env : Env1) (S : List Dat) (rs : List Sl) (S' : List Dat) : Prop :=
  ∀ B H as σ, Ok K B H as S → EnvR K B as σ env → ∀ Q : List V → Hp → Prop, (∀ vs B' H', Ok K B' H' as S' → Evo B H as B' H' → RepSs K B' as vs rs → Q vs H') → ta σ H Q
/-- a two-place operation by values -/
def Op2 (K : PySem.W.Frag) (r : R2) (x y : Sl) (S : List Dat) (z : Dat) : Prop :=
  ∀ B H as v w, Ok K B H as S → RepS K B as v x → RepS K B as w y → ∀ Q : VK, (∀ u B' H', Ok K B' H' as S → Evo B H as B' H' → Rep K B' u z → Q u H') → r v w H Q
def Op1 (K : PySem.W.Frag) (r : V → Hp → VK → Prop) (x : Sl) (S : List Dat) (z : Dat) : Prop :=
  ∀ B H as v, Ok K B H as S → RepS K B as v x → ∀ Q : VK, (∀ u B' H', Ok K B' H' as S → Evo B H as B' H' → Rep K B' u z → Q u H') → r v H Q
/-- a call by values; it may change what is changed -/
def CallD (K : PySem.W.Frag) (r : List V → Hp → VK → Prop) (xs : List Sl) (S : List Dat) (z : Dat) (S' : List Dat) : Prop :=
  ∀ B H as vs, Ok K B H as S → RepSs K B as vs xs → ∀ Q : VK, (∀ u B' H', Ok K B' H' as S' → Evo B H as B' H' → Rep K B' u z → Q u H') → r vs H Q
section
variable {K : PySem.W.Frag} {te ta tb tc : TE} {tt tu : TT} {tA tR : TA} {env : Env1} {S S1 S2 S3 : List Dat} {x y z : Sl} {d e : Dat} {r : R2}
theorem ev_var {i : Nat} (h : env[i]? = some (some x)) : Ev K (tVar i) env S x S := fun B H as σ c g Q q => by
  obtain ⟨v, h1, h2⟩ := g.2 i x h
  exact ⟨v, h1, q v B H c Evo.refl h2⟩
theorem ev_int {i : Int} : Ev K (tC (.int i)) env S (.d (.int i)) S := fun B H as σ c g Q q => q _ B H c Evo.refl (.int i)
theorem ev_bl {b : Bool} : Ev K (tC (.bl b)) env S (.d (.bl b)) S := fun B H as σ c g Q q => q _ B H c Evo.refl (.bl b)
theorem ev_str {b : Str} : Ev K (tC (.str b)) env S (.d (.str b)) S := fun B H as σ c g Q q => q _ B H c Evo.refl (.str b)
theorem ev_non : Ev K (tC .non) env S (.d .non) S := fun B H as σ c g Q q => q _ B H c Evo.refl .non
theorem ev_ty {n : String} : Ev K (tC (.ty n)) env S (.d (.ty n)) S := fun B H as σ c g Q q => q _ B H c Evo.refl (.ty n)
theorem ev_adr {a : Addr} : Ev K (tC (.ref a)) env S (.d (.adr a)) S := fun B H as σ c g Q q => q _ B H c Evo.refl (.adr a)
theorem Ev.to {r r' : Sl} (h : Ev K te env S r S1) (e : r = r') : Ev K te env S r' S1 := e ▸ h
theorem EvT.to {b b' : Bool} (h : EvT K tt env S b S1) (e : b = b') : EvT K tt env S b' S1 := e ▸ h
theorem ev_op (ha : Ev K ta env S x S1) (hb : Ev K tb env S1 y S2) (hr : Op2 K r x y S2 d) : Ev K (tOp r ta tb) env S (.d d) S2 := fun B H as σ c g Q q =>
  ha B H as σ c g _ fun v B1 H1 c1 e1 r1 => hb B1 H1 as σ c1 (g.mono e1.ex) _ fun w B2 H2 c2 e2 r2 =>
    hr B2 H2 as v w c2 (r1.mono e2.ex) r2 _ fun u B3 H3 c3 e3 r3 => q u B3 H3 c3 ((e1.trans e2).trans e3) r3
theorem ev_un {r : V → Hp → VK → Prop} (ha : Ev K ta env S x S1) (hr : Op1 K r x S1 d) : Ev K (tUn r ta) env S (.d d) S1 := fun B H as σ c g Q q =>
  ha B H as σ c g _ fun v B1 H1 c1 e1 r1 => hr B1 H1 as v c1 r1 _ fun u B3 H3 c3 e3 r3 => q u B3 H3 c3 (e1.trans e3) r3
theorem op2_int0 {g : Int → Int → V} {i j : Int} (h : ∀ B : Hp, Rep K B (g i j) d) : Op2 K (rI0 g) (.d (.int i)) (.d (.int j)) S d := fun B H as v w c h1 h2 Q q => by
  cases h1; cases h2
  exact ⟨i, j, rfl, rfl, q _ B H c Evo.refl (h B)⟩
theorem op2_int {C : Int → Int → Prop} {g : Int → Int → V} {i j : Int} (hc : C i j) (h : ∀ B : Hp, Rep K B (g i j) d) : Op2 K (rI C g) (.d (.int i)) (.d (.int j)) S d := fun B H as v w c h1 h2 Q q => by
  cases h1; cases h2
  exact ⟨i, j, rfl, rfl, hc, q _ B H c Evo.refl (h B)⟩
theorem op1_int {g : Int → V} {i : Int} (h : ∀ B : Hp, Rep K B (g i) d) : Op1 K (rU g) (.d (.int i)) S d := fun B H as v c h1 Q q => by
  cases h1
  exact ⟨i, rfl, q _ B H c Evo.refl (h B)⟩
theorem ea_nil : EvA K tNil env S [] S := fun B H as σ c g Q q => q [] B H c Evo.refl .nil
theorem ea_cons {xs : List Sl} (h : Ev K ta env S x S1) (hr : EvA K tA env S1 xs S2) : EvA K (tCons ta tA) env S (x :: xs) S2 := fun B H as σ c g Q q =>
  h B H as σ c g _ fun v B1 H1 c1 e1 r1 => hr B1 H1 as σ c1 (g.mono e1.ex) _ fun vs B2 H2 c2 e2 r2 => q _ B2 H2 c2 (e1.trans e2) (.cons (r1.mono e2.ex) r2)
theorem ev_tup {ds : List Dat} (h : EvA K tA env S (ds.map Sl.d) S1) (hl : ds.length ≤ sizeLine) : Ev K (tTup tA) env S (.d (.tup ds)) S1 := fun B H as σ c g Q q =>
  h B H as σ c g _ fun vs B1 H1 c1 e1 r1 => ⟨by rw [r1.ds.length]; exact hl, fun p hp =>
    q _ (upd B1 p (.tup vs)) _ (c1.new hp) (e1.trans (Evo.new c1 hp)) (.tup (.inl (.inl upd_same)) (r1.ds.mono (Evl.Ex.new (c1.Bnone hp))))⟩
/-- a list that nothing knows becomes known -/
theorem Ok.know {B H : Hp} {as : List Addr} {p : Addr} {ob : HO} (c : Ok K B H as S) (hp : H p = some ob) (hb : B p = none) (ha : p ∉ as) (ho : ∀ ps, ob ≠ .tbl ps := by exact fun _ z => nomatch z) : Ok K (upd B p ob) H as S where
  ex := fun a u e => by
    by_cases q : a = p
    · subst q; rw [upd_same] at e; cases e; exact hp
    · rw [upd_ne q] at e; exact c.ex a u e
  len := c.len
  cells := fun k a s h1 h2 => by
    obtain ⟨q1, q2⟩ := c.cells k a s h1 h2
    have ne : a ≠ p := by
      intro z
      subst z
      exact ha (List.mem_of_getElem? h1)
    rw [upd_ne ne]
    refine ⟨q1, ?_⟩
    obtain ⟨o, q3, q4⟩ := q2
    exact ⟨o, q3, q4.mono (Evl.Ex.new hb)⟩
  nd := c.nd
  lk := c.lk
  tb := c.tb
  ntb := fun a ps e => by
    by_cases q : a = p
    · subst q; rw [upd_same] at e; exact ho ps (Option.some.inj e)
    · rw [upd_ne q] at e; exact c.ntb a ps e
theorem Ok.there {B H : Hp} {as : List Addr} {p : Addr} (c : Ok K B H as S) (hp : p ∈ as) : ∃ o, H p = some o := by
  obtain ⟨k, hk⟩ := List.mem_iff_getElem?.mp hp
  have hl : k < S.length := by rw [← c.len]; exact (List.getElem?_eq_some_iff.mp hk).1
  obtain ⟨_, o, q3, _⟩ := c.cells k p S[k] hk (List.getElem?_eq_getElem hl)
  exact ⟨o, q3⟩
theorem Ok.fresh {B H : Hp} {as : List Addr} {p : Addr} (c : Ok K B H as S) (hp : H p = none) : p ∉ as := fun h => by
  obtain ⟨o, q⟩ := c.there h
  rw [hp] at q; cases q
theorem EvN.ev {ds : List Dat} (h : EvN K te env S ds S1) : Ev K te env S (.d (.lst ds)) S1 := fun B H as σ c g Q q =>
  h B H as σ c g _ fun p B1 H1 vs c1 e1 hp hb hl r1 =>
    q _ (upd B1 p (.lst vs)) H1 (c1.know hl hb hp.1) ⟨e1.ex.trans (Evl.Ex.new hb), e1.fr, fun a o h nt => by rw [upd_ne (by rintro rfl; exact hp.2.no h nt)]; exact e1.gr a o h nt, e1.tp, e1.pr⟩ (.lst upd_same (r1.mono (Evl.Ex.new hb)))
/-- made at p just now -/
theorem evn_new {B H B1 H1 : Hp} {as : List Addr} {p : Addr} {vs : List V} {ds : List Dat} {Q : VK} (c : Ok K B H as S) (c1 : Ok K B1 H1 as S1) (e1 : Evo B H as B1 H1) (hp : H1 p = none) (r1 : Reps K B1 vs ds)
    (q : ∀ p B' H' vs, Ok K B' H' as S1 → Evo B H as B' H' → Fresh H as p → B' p = none → H' p = some (.lst vs) → Reps K B' vs ds → Q (.ref p) H') : Q (.ref p) (upd H1 p (.lst vs)) := by
  have hp0 : Nn H p := fun o h => by
    by_cases nt : ∀ ps, o ≠ .tbl ps
    · obtain ⟨o', h', _⟩ := e1.pr p o h nt
      rw [hp] at h'; cases h'
    · exact Classical.byContradiction fun z => nt fun ps e => z ⟨ps, e⟩
  have hpa : p ∉ as := c1.fresh hp
  refine q p B1 _ vs ⟨fun a u e => ?_, c1.len, fun k a s h1 h2 => ?_, c1.nd, fun k a s o h1 h2 h3 => c1.lk k a s o h1 h2 (by rw [upd_ne (by rintro rfl; exact hpa (List.mem_of_getElem? h1))] at h3; exact h3), c1.ntb, c1.tb⟩ ⟨e1.ex, fun a u n h nt => ?_, fun a o h nt => (e1.gr a o h nt).imp id fun ⟨o', fo, z⟩ => ⟨o', fo, by rw [upd_ne (ne_of_none z hp)]; exact z⟩, fun a o fo h => ?_, fun a o h nt => ?_⟩ ⟨hpa, hp0⟩ (c1.Bnone hp) upd_same r1
  · rw [upd_ne (by rintro rfl; rw [c1.Bnone hp] at e; cases e)]
    exact c1.ex a u e
  · obtain ⟨q1, q2⟩ := c1.cells k a s h1 h2
    have ne : a ≠ p := by rintro rfl; exact hpa (List.mem_of_getElem? h1)
    refine ⟨q1, ?_⟩
    obtain ⟨o, q3, q4⟩ := q2
    exact ⟨o, by rw [upd_ne ne]; exact q3, q4⟩
  · rw [upd_ne (by rintro rfl; exact hp0.no h nt)]
    exact e1.fr a u n h nt
  · exact (by
      have h1 := e1.tp a o fo h
      rw [upd_ne (ne_of_none h1 hp)]; exact h1)
  · obtain ⟨o', h', n'⟩ := e1.pr a o h nt
    exact ⟨o', by rw [upd_ne (ne_of_none h' hp)]; exact h', n'⟩
theorem en_lst {ds : List Dat} (h : EvA K tA env S (ds.map Sl.d) S1) (hl : ds.length ≤ sizeLine) : EvN K (tLst tA) env S ds S1 := fun B H as σ c g Q q =>
  h B H as σ c g _ fun vs B1 H1 c1 e1 r1 => ⟨by rw [r1.ds.length]; exact hl, fun p hp => evn_new c c1 e1 hp r1.ds q⟩

/-! ### sequences as they are read -/
/-- a list or a tuple (known, or changed now) of ds -/
def Seq (S : List Dat) (x : Sl) (ds : List Dat) : Prop := x = .d (.lst ds) ∨ x = .d (.tup ds) ∨ ∃ k, x = .c k ∧ S[k]? = some (.lst ds)
theorem Seq.lst {ds : List Dat} : Seq S (.d (.lst ds)) ds := .inl rfl
theorem Seq.tup {ds : List Dat} : Seq S (.d (.tup ds)) ds := .inr (.inl rfl)
theorem Seq.cell {ds : List Dat} {k : Nat} (h : S[k]? = some (.lst ds)) : Seq S (.c k) ds := .inr (.inr ⟨k, rfl, h⟩)
theorem Seq.read {B H : Hp} {as : List Addr} {v : V} {ds : List Dat} (c : Ok K B H as S) (h : Seq S x ds) (r : RepS K B as v x) : ∃ a k vs, v = .ref a ∧ Sq K k H a vs ∧ Reps K B vs ds := by
  rcases h with rfl | rfl | ⟨k, rfl, hk⟩
  · cases r with
    | lst h r => exact ⟨_, true, _, rfl, Or.inl (Or.inl (c.ex _ _ h)), r⟩
  · cases r with
    | tup h r => exact ⟨_, false, _, rfl, Evl.ex_t c.ex h, r⟩
  · obtain ⟨a, ha, rfl⟩ := r
    obtain ⟨_, q⟩ := c.cells k a _ ha hk
    obtain ⟨vs, q1, q2⟩ := q.lst
    exact ⟨a, true, vs, rfl, Or.inl (Or.inl q1), q2⟩
/-- .. that is a list -/
def SeqL (S : List Dat) (x : Sl) (ds : List Dat) : Prop := x = .d (.lst ds) ∨ ∃ k, x = .c k ∧ S[k]? = some (.lst ds)
theorem SeqL.read {B H : Hp} {as : List Addr} {v : V} {ds : List Dat} (c : Ok K B H as S) (h : SeqL S x ds) (r : RepS K B as v x) : ∃ a vs, v = .ref a ∧ H a = some (.lst vs) ∧ Reps K B vs ds := by
  rcases h with rfl | ⟨k, rfl, hk⟩
  · cases r with
    | lst h r => exact ⟨_, _, rfl, c.ex _ _ h, r⟩
  · obtain ⟨a, ha, rfl⟩ := r
    obtain ⟨_, q⟩ := c.cells k a _ ha hk
    obtain ⟨vs, q1, q2⟩ := q.lst
    exact ⟨a, vs, rfl, q1, q2⟩
theorem SeqL.lst {ds : List Dat} : SeqL S (.d (.lst ds)) ds := .inl rfl
theorem SeqL.cell {ds : List Dat} {k : Nat} (h : S[k]? = some (.lst ds)) : SeqL S (.c k) ds := .inr ⟨k, rfl, h⟩
theorem sq_or {H : Hp} {a : Addr} {vs : List V} {k : Bool} (h : Sq K k H a vs) : SqL K H a vs ∨ SqT K H a vs := by
  cases k with
  | true => exact .inl h
  | false => exact .inr h
theorem atI_reps {B : Hp} {vs : List V} {ds : List Dat} {i : Int} {d : Dat} (r : Reps K B vs ds) (h : atI ds i = some d) : ∃ v, atI vs i = some v ∧ Rep K B v d := by
  unfold atI at h ⊢
  rw [r.length]
  cases e : ixN ds.length i with
  | none => rw [e] at h; cases h
  | some j =>
    rw [e] at h
    exact r.get h
/-- xs[i] -/
theorem op2_ix {ds : List Dat} {i : Int} (h : Seq S x ds) (hi : atI ds i = some d) : Op2 K (rIx K) x (.d (.int i)) S d := fun B H as v w c h1 h2 Q q => by
  obtain ⟨a, k, vs, rfl, hq, hr⟩ := h.read c h1
  obtain ⟨u, hu, ru⟩ := atI_reps hr hi
  cases h2
  cases k with
  | true => exact .inl ⟨a, vs, i, u, rfl, rfl, hq, hu, q u B H c Evo.refl ru⟩
  | false => exact .inr (.inl ⟨a, vs, i, u, rfl, rfl, hq, hu, q u B H c Evo.refl ru⟩)
end
end RW

set_option Elab.async false
set_option linter.all false
set_option maxRecDepth 100000
set_option maxHeartbeats 4000000
namespace RW
open PySem PySem.Spec PyProof.Rows L2
open Evl (Ex)

/-! ### statements -/
structure Post where
  nx : Env1 → List Dat → Prop := fun _ _ => False
  rt : Dat → List Dat → Prop := fun _ _ => False
  bk : Env1 → List Dat → Prop := fun _ _ => False
  ct : Env1 → List Dat → Prop := fun _ _ => False
  ok : Hp → Hp → List Addr → Prop := fun _ _ _ => True
/-- where a def's body stands: it was entered at B0, H0 with the changed things as0 -/
structure Fr (B0 H0 : Hp) (as0 : List Addr) (Bk : Hp) (B H : Hp) (as : List Addr) : Prop where
  kn : Ex Bk B
  base : as.take as0.length = as0
  evo : Evo B0 H0 as0 B H
  loc : ∀ a ∈ as.drop as0.length, Nn H0 a
def MeetE (K : PySem.W.Frag) (B0 H0 : Hp) (as0 : List Addr) (Bk : Hp) (p : Env1 → List Dat → Prop) (D : L2.St → Hp → Prop) : Prop :=
  ∀ env' S' B' H' as' σ', Fr B0 H0 as0 Bk B' H' as' → Ok K B' H' as' S' → EnvR K B' as' σ' env' → p env' S' → D σ' H'
structure Meets (K : PySem.W.Frag) (B0 H0 : Hp) (as0 : List Addr) (Bk : Hp) (D : Ends) (P : Post) : Prop where
  nx : MeetE K B0 H0 as0 Bk P.nx D.nx
  rt : ∀ v r S' B' H', Ok K B' H' as0 S' → Evo B0 H0 as0 B' H' → Rep K B' v r → P.rt r S' → D.rt v H'
  bk : MeetE K B0 H0 as0 Bk P.bk D.bk
  ct : MeetE K B0 H0 as0 Bk P.ct D.ct
  ok : P.ok B0 H0 as0
/-- run from env, S, where n of the changed things came with the call, it ends in P -/
def SP (K : PySem.W.Frag) (n : Nat) (ts : TS) (env : Env1) (S : List Dat) (P : Post) : Prop :=
  ∀ B0 H0 as0 Bk B H as σ, as0.length = n → Fr B0 H0 as0 Bk B H as → Ok K B H as S → EnvR K B as σ env → ∀ D : Ends, Meets K B0 H0 as0 Bk D P → ts D σ H
section
variable {K : PySem.W.Frag} {n : Nat} {te ta tb tc to ti : TE} {tt : TT} {tA tR : TA} {env env' : Env1} {S S1 S2 S3 : List Dat} {x y z : Sl} {d e : Dat} {ds : List Dat} {r : R2} {P P' : Post} {t u : TS}
  {B B0 B1 B' Bk H H0 H1 H' : Hp} {as as0 as1 : List Addr} {D : Ends} {σ : L2.St} {i : Nat}
theorem Evo.oldN (e : Evo B H as B1 H1) {a : Addr} (h : Nn H1 a) : Nn H a := fun o q => by
  by_cases nt : ∀ ps, o ≠ .tbl ps
  · obtain ⟨o', h', n'⟩ := e.pr a o q nt
    exact (h.no h' n').elim
  · exact Classical.byContradiction fun z => nt fun ps e => z ⟨ps, e⟩
theorem Evo.old (e : Evo B H as B1 H1) {a : Addr} (h : H1 a = none) : Nn H a := e.oldN (.of h)
theorem Ok.upto (c : Ok K B H as S) (k : Nat) : Ok K B H (as.take k) (S.take k) where
  ex := c.ex
  len := by rw [List.length_take, List.length_take, c.len]
  cells := fun j a s h1 h2 => by
    have hk : j < (as.take k).length := (List.getElem?_eq_some_iff.mp h1).1
    rw [List.length_take] at hk
    have hk' : j < k := by omega
    rw [List.getElem?_take_of_lt hk'] at h1 h2
    exact c.cells j a s h1 h2
  nd := c.nd.sublist (List.take_sublist _ _)
  ntb := c.ntb
  tb := fun j P q h => by
    have hk : j < (S.take k).length := (List.getElem?_eq_some_iff.mp h).1
    rw [List.length_take] at hk
    have hk' : j < k := by omega
    rw [List.getElem?_take_of_lt hk'] at h ⊢
    exact c.tb j P q h
  lk := fun j a s o h1 h2 h3 => by
    have hk : j < (as.take k).length := (List.getElem?_eq_some_iff.mp h1).1
    rw [List.length_take] at hk
    have hk' : j < k := by omega
    rw [List.getElem?_take_of_lt hk'] at h1 h2
    intro C fs f i e q1 q2
    obtain ⟨b, dx, vs, r1, r2⟩ := c.lk j a s o h1 h2 h3 C fs f i e q1 q2
    exact ⟨b, dx, vs, by rw [List.getElem?_take_of_lt (by omega)]; exact r1, r2⟩
theorem Fr.step (f : Fr B0 H0 as0 Bk B H as) (e : Evo B H as B1 H1) : Fr B0 H0 as0 Bk B1 H1 as where
  kn := f.kn.trans e.ex
  base := f.base
  evo := ⟨f.evo.ex.trans e.ex, fun a o hn q nt => e.fr a o (fun hm => by
      rw [← List.take_append_drop as0.length as, f.base] at hm
      rcases List.mem_append.mp hm with z | z
      · exact hn z
      · exact (f.loc a z).no q nt) (f.evo.fr a o hn q nt) nt, fun a o q nt => let ⟨o1, h1, n1⟩ := f.evo.pr a o q nt; (e.gr a o1 h1 n1).elim (fun z => (f.evo.gr a o q nt).elim (fun z2 => .inl (z.trans z2)) fun ⟨o, fo, h⟩ => .inr ⟨o, fo, e.tp a o fo h⟩) .inr, fun a o fo h => e.tp a o fo (f.evo.tp a o fo h), fun a o q nt => let ⟨o1, h1, n1⟩ := f.evo.pr a o q nt; e.pr a o1 h1 n1⟩
  loc := f.loc
theorem Fr.len (f : Fr B0 H0 as0 Bk B H as) : as0.length ≤ as.length := by
  have := congrArg List.length f.base
  rw [List.length_take] at this
  omega
/-- one more changed thing -/
theorem Fr.push {p : Addr} (f : Fr B0 H0 as0 Bk B H as) (h : Nn H0 p) : Fr B0 H0 as0 Bk B H (as ++ [p]) where
  kn := f.kn
  base := by rw [List.take_append_of_le_length f.len]; exact f.base
  evo := f.evo
  loc := fun a ha => by
    rw [List.drop_append_of_le_length f.len] at ha
    rcases List.mem_append.mp ha with z | z
    · exact f.loc a z
    · rw [List.mem_singleton.mp z]; exact h
theorem Ok.push {p : Addr} {s0 : Dat} (c : Ok K B H as S) (hb : B p = none) (ha : p ∉ as) (r : CellAt K B H p s0) (l : ∀ o, H p = some o → LkO as as.length o s0 := by exact fun _ _ _ _ _ _ h => nomatch h) (ht : ∀ P q, s0 = .tab P q → p = P := by exact fun _ _ h => nomatch h) : Ok K B H (as ++ [p]) (S ++ [s0]) where
  ex := c.ex
  len := by rw [List.length_append, List.length_append, c.len]; rfl
  cells := fun k a s h1 h2 => by
    by_cases hk : k < as.length
    · rw [List.getElem?_append_left hk] at h1
      rw [List.getElem?_append_left (by rw [← c.len]; exact hk)] at h2
      exact c.cells k a s h1 h2
    · have hk2 : ¬ k < S.length := by rw [← c.len]; exact hk
      rw [List.getElem?_append_right (by omega)] at h1 h2
      have e0 : k - as.length = 0 := by
        have := (List.getElem?_eq_some_iff.mp h1).1
        simp at this
        omega
      have e1 : k - S.length = 0 := by rw [← c.len]; exact e0
      rw [e0] at h1
      rw [e1] at h2
      simp at h1 h2
      subst h1 h2
      exact ⟨hb, r⟩
  nd := List.nodup_append.mpr ⟨c.nd, by simp, fun a h1 b h2 => by rw [List.mem_singleton.mp h2]; rintro rfl; exact ha h1⟩
  ntb := c.ntb
  tb := fun k P q h => by
    by_cases hk : k < S.length
    · rw [List.getElem?_append_left hk] at h
      rw [List.getElem?_append_left (by rw [c.len]; exact hk)]
      exact c.tb k P q h
    · rw [List.getElem?_append_right (by omega)] at h
      have e1 : k - S.length = 0 := by
        have := (List.getElem?_eq_some_iff.mp h).1
        simp at this
        omega
      rw [e1] at h
      simp at h
      rw [List.getElem?_append_right (by rw [c.len]; omega), c.len, e1, ht P q h]
      rfl
  lk := fun k a s o h1 h2 h3 => by
    by_cases hk : k < as.length
    · rw [List.getElem?_append_left hk] at h1
      rw [List.getElem?_append_left (by rw [← c.len]; exact hk)] at h2
      intro C fs f i e q1 q2
      obtain ⟨b, dx, vs, r1, r2⟩ := c.lk k a s o h1 h2 h3 C fs f i e q1 q2
      exact ⟨b, dx, vs, by rw [List.getElem?_append_left (by omega)]; exact r1, r2⟩
    · have hk2 : ¬ k < S.length := by rw [← c.len]; exact hk
      rw [List.getElem?_append_right (by omega)] at h1 h2
      have e0 : k - as.length = 0 := by
        have := (List.getElem?_eq_some_iff.mp h1).1
        simp at this
        omega
      have e1 : k - S.length = 0 := by rw [← c.len]; exact e0
      rw [e0] at h1
      rw [e1] at h2
      simp at h1 h2
      subst h1 h2
      have ek : k = as.length := by omega
      subst ek
      intro C fs f i e q1 q2
      obtain ⟨b, dx, vs, r1, r2⟩ := l o h3 C fs f i e q1 q2
      exact ⟨b, dx, vs, by rw [List.getElem?_append_left (by omega)]; exact r1, r2⟩
theorem SP.imp (h : SP K n t env S P) (hn : ∀ env' S', P.nx env' S' → P'.nx env' S') (hr : ∀ r S', P.rt r S' → P'.rt r S') (hb : ∀ env' S', P.bk env' S' → P'.bk env' S') (hc : ∀ env' S', P.ct env' S' → P'.ct env' S') (ho : ∀ B0 H0 as0, P'.ok B0 H0 as0 → P.ok B0 H0 as0 := by exact fun _ _ _ h => h) : SP K n t env S P' :=
  fun B0 H0 as0 Bk B H as σ hl f c g D m => h B0 H0 as0 Bk B H as σ hl f c g D ⟨fun a b c d e f g h i p => m.nx a b c d e f g h i (hn _ _ p), fun a b c d e f g h p => m.rt a b c d e f g h (hr _ _ p),
    fun a b c d e f g h i p => m.bk a b c d e f g h i (hb _ _ p), fun a b c d e f g h i p => m.ct a b c d e f g h i (hc _ _ p), ho _ _ _ m.ok⟩
theorem sp_seq (h : SP K n t env S { P with nx := P'.nx }) (k : ∀ env' S', P'.nx env' S' → SP K n u env' S' P) : SP K n (tSeq t u) env S P := fun B0 H0 as0 Bk B H as σ hl f c g D m =>
  h B0 H0 as0 Bk B H as σ hl f c g { D with nx := u D } ⟨fun env' S' B' H' as' σ' f' c' g' p => k env' S' p B0 H0 as0 Bk B' H' as' σ' hl f' c' g' D m, m.rt, m.bk, m.ct, m.ok⟩
/-- the first one goes on at one place alone -/
theorem sp_then (h : SP K n t env S { P with nx := fun env' S' => env' = env1 ∧ S' = S1 }) (k : SP K n u env1 S1 P) : SP K n (tSeq t u) env S P :=
  sp_seq (P' := { nx := fun env' S' => env' = env1 ∧ S' = S1 }) h fun env' S' ⟨e1, e2⟩ => by subst e1 e2; exact k
theorem sp_next (h : P.nx env S) : SP K n tNext env S P := fun B0 H0 as0 Bk B H as σ hl f c g D m => m.nx env S B H as σ f c g h
theorem sp_break (h : P.bk env S) : SP K n tBreak env S P := fun B0 H0 as0 Bk B H as σ hl f c g D m => m.bk env S B H as σ f c g h
theorem sp_cont (h : P.ct env S) : SP K n tCont env S P := fun B0 H0 as0 Bk B H as σ hl f c g D m => m.ct env S B H as σ f c g h
/-- x = e, and what follows -/
theorem sp_set (h : Ev K te env S x S1) (k : SP K n u (env.set i (some x)) S1 P) : SP K n (tSeq (tAsg te (gName i)) u) env S P := fun B0 H0 as0 Bk B H as σ hl f c g D m =>
  h B H as σ c g _ fun v B1 H1 c1 e1 r1 => k B0 H0 as0 Bk B1 H1 as _ hl (f.step e1) c1 ((g.mono e1.ex).set i r1) D m
theorem sp_set1 (h : Ev K te env S x S1) (k : P.nx (env.set i (some x)) S1) : SP K n (tAsg te (gName i)) env S P := fun B0 H0 as0 Bk B H as σ hl f c g D m =>
  h B H as σ c g _ fun v B1 H1 c1 e1 r1 => m.nx _ S1 B1 H1 as _ (f.step e1) c1 ((g.mono e1.ex).set i r1) k
/-- x = a new list, which will be changed -/
theorem sp_setC (h : EvN K te env S ds S1) (k : SP K n u (env.set i (some (.c S1.length))) (S1 ++ [.lst ds]) P) : SP K n (tSeq (tAsg te (gName i)) u) env S P := fun B0 H0 as0 Bk B H as σ hl f c g D m =>
  h B H as σ c g _ fun p B1 H1 vs c1 e1 hp hb h1 r1 => by
    have hpa := hp.1
    refine k B0 H0 as0 Bk B1 H1 (as ++ [p]) _ hl ((f.step e1).push (f.evo.oldN hp.2)) (c1.push hb hpa (.ofL h1 r1)) (((g.mono e1.ex).grow).set i ?_) D m
    exact ⟨p, by rw [← c1.len]; simp, rfl⟩
/-- return e -/
theorem sp_ret (h : Ev K te env S (.d d) S1) (k : P.rt d (S1.take n)) : SP K n (tRet te) env S P := fun B0 H0 as0 Bk B H as σ hl f c g D m =>
  h B H as σ c g _ fun v B1 H1 c1 e1 r1 => by
    have f1 := f.step e1
    have c2 := c1.upto as0.length
    rw [f1.base] at c2
    subst hl
    exact m.rt v d _ B1 H1 c2 f1.evo r1 k
/-- return xs, a list that was made here and changed -/
theorem sp_retC {j k : Nat} (h : env[j]? = some (some (.c k))) (hs : S[k]? = some (.lst ds)) (hk : n ≤ k) (q : P.rt (.lst ds) (S.take n)) : SP K n (tRet (tVar j)) env S P := fun B0 H0 as0 Bk B H as σ hl f c g D m => by
  obtain ⟨v, h1, a, ha, rfl⟩ := g.2 j _ h
  obtain ⟨hb, q0⟩ := c.cells k a _ ha hs
  obtain ⟨vs, hv, rv⟩ := q0.lst
  refine ⟨.ref a, h1, ?_⟩
  have c2 := c.upto as0.length
  rw [f.base] at c2
  subst hl
  have hd : a ∈ as.drop as0.length := by
    have hkl := (List.getElem?_eq_some_iff.mp ha).1
    refine List.mem_of_getElem? (i := k - as0.length) ?_
    rw [List.getElem?_drop]
    rw [show as0.length + (k - as0.length) = k by omega]
    exact ha
  have hn : a ∉ as0 := by
    intro hm
    have nd := c.nd
    rw [← List.take_append_drop as0.length as, f.base] at nd
    exact (List.nodup_append.mp nd).2.2 a hm a hd rfl
  have h0 := f.loc a hd
  exact m.rt (.ref a) (.lst ds) _ (upd B a (.lst vs)) H (c2.know hv hb hn) ⟨f.evo.ex.trans (Evl.Ex.new hb), f.evo.fr, fun b o hb' nt => by rw [upd_ne (by rintro rfl; exact h0.no hb' nt)]; exact f.evo.gr b o hb' nt, f.evo.tp, f.evo.pr⟩ (.lst upd_same (rv.mono (Evl.Ex.new hb))) q
theorem sp_retN (k : P.rt .non (S.take n)) : SP K n tRetN env S P := fun B0 H0 as0 Bk B H as σ hl f c g D m => by
  have c2 := c.upto as0.length
  rw [f.base] at c2
  subst hl
  exact m.rt .non .non _ B H c2 f.evo .non k
/-- e, and what follows -/
theorem sp_drop (h : Ev K te env S x S1) (k : SP K n u env S1 P) : SP K n (tSeq (tDrop te) u) env S P := fun B0 H0 as0 Bk B H as σ hl f c g D m =>
  h B H as σ c g _ fun v B1 H1 c1 e1 r1 => k B0 H0 as0 Bk B1 H1 as _ hl (f.step e1) c1 (g.mono e1.ex) D m
theorem sp_drop1 (h : Ev K te env S x S1) (k : P.nx env S1) : SP K n (tDrop te) env S P := fun B0 H0 as0 Bk B H as σ hl f c g D m =>
  h B H as σ c g _ fun v B1 H1 c1 e1 r1 => m.nx _ S1 B1 H1 as _ (f.step e1) c1 (g.mono e1.ex) k
theorem sp_if {b : Bool} (h : EvT K tt env S b S1) (h1 : b = true → SP K n t env S1 P) (h2 : b = false → SP K n u env S1 P) : SP K n (tIfS tt t u) env S P := fun B0 H0 as0 Bk B H as σ hl f c g D m =>
  h B H as σ c g _ fun B1 H1 c1 e1 => by
    cases b with
    | true => exact h1 rfl B0 H0 as0 Bk B1 H1 as _ hl (f.step e1) c1 (g.mono e1.ex) D m
    | false => exact h2 rfl B0 H0 as0 Bk B1 H1 as _ hl (f.step e1) c1 (g.mono e1.ex) D m
/-- an if, and what follows -/
theorem sp_ifq {v : TS} {b : Bool} (h : EvT K tt env S b S1) (h1 : b = true → SP K n (tSeq t v) env S1 P) (h2 : b = false → SP K n (tSeq u v) env S1 P) : SP K n (tSeq (tIfS tt t u) v) env S P := fun B0 H0 as0 Bk B H as σ hl f c g D m =>
  h B H as σ c g _ fun B1 H1 c1 e1 => by
    cases b with
    | true => exact h1 rfl B0 H0 as0 Bk B1 H1 as _ hl (f.step e1) c1 (g.mono e1.ex) D m
    | false => exact h2 rfl B0 H0 as0 Bk B1 H1 as _ hl (f.step e1) c1 (g.mono e1.ex) D m
theorem sp_nextq {v : TS} (h : SP K n v env S P) : SP K n (tSeq tNext v) env S P := fun B0 H0 as0 Bk B H as σ hl f c g D m => h B0 H0 as0 Bk B H as σ hl f c g D m
theorem sp_retq {v : TS} (h : SP K n (tRet te) env S P) : SP K n (tSeq (tRet te) v) env S P := fun B0 H0 as0 Bk B H as σ hl f c g D m =>
  h B0 H0 as0 Bk B H as σ hl f c g { D with nx := fun _ _ => True } ⟨fun _ _ _ _ _ _ _ _ _ _ => trivial, m.rt, m.bk, m.ct, m.ok⟩
theorem sp_assoc {v : TS} (h : SP K n (tSeq t (tSeq u v)) env S P) : SP K n (tSeq (tSeq t u) v) env S P := h

/-! ### a def's promise: G args S result S' -/
def SpD (K : PySem.W.Frag) (G : List Sl → List Dat → Dat → List Dat → Prop) : Sp := fun vs H Q _ => ∃ B as S ss r S', Ok K B H as S ∧ RepSs K B as vs ss ∧ G ss S r S' ∧
  ∀ v B' H', Ok K B' H' as S' → Evo B H as B' H' → Rep K B' v r → Q v H'
theorem sp_body {G : List Sl → List Dat → Dat → List Dat → Prop} {N : List Str} {vs : List V} {Q : VK} {E : XK} (h : SpD K G vs H Q E)
    (k : ∀ ss S r S', G ss S r S' → SP K S.length t (ss.map some ++ List.replicate (N.length - ss.length) none) S { rt := fun r' T => r' = r ∧ T = S', nx := fun _ T => r = .non ∧ T.take S.length = S' }) :
    t { nx := fun _ H' => Q .non H', rt := Q } (start N vs) H := by
  obtain ⟨B, as, S, ss, r, S', c, rs, g, q⟩ := h
  refine k ss S r S' g B H as B B H as _ c.len ⟨Evl.Ex.refl B, List.take_length, Evo.refl, fun a ha => ?_⟩ c (EnvR.start rs) _ ⟨fun env' T B' H' as' σ' f c' g' ⟨p1, p2⟩ => ?_, fun v r' T B' H' c' e' r1 ⟨p1, p2⟩ => ?_, fun _ _ _ _ _ _ _ _ _ p => p.elim, fun _ _ _ _ _ _ _ _ _ p => p.elim, trivial⟩
  · rw [List.drop_length] at ha; cases ha
  · subst p1
    have c2 := c'.upto as.length
    rw [f.base, c.len, p2] at c2
    exact q .non B' H' c2 f.evo .non
  · subst p1 p2
    exact q v B' H' c' e' r1
theorem spd_len {G : List Sl → List Dat → Dat → List Dat → Prop} {k : Nat} (h : ∀ ss S r S', G ss S r S' → ss.length = k) : ∀ vs H Q E, SpD K G vs H Q E → vs.length = k := fun vs H Q E q => by
  obtain ⟨B, as, S, ss, r, S', c, rs, g, _⟩ := q
  rw [rs.length]
  exact h ss S r S' g
theorem ev_call {G : List Sl → List Dat → Dat → List Dat → Prop} {ss : List Sl} {E : XK} (h : EvA K tA env S ss S1) (hg : G ss S1 d S2) : Ev K (tCall (SpD K G) [] E tA) env S (.d d) S2 := fun B H as σ c g Q q =>
  h B H as σ c g _ fun vs B1 H1 c1 e1 r1 => ⟨B1, as, S1, ss, d, S2, c1, by rw [List.append_nil]; exact r1, hg, fun v B2 H2 c2 e2 r2 => q v B2 H2 c2 (e1.trans e2) r2⟩
end
end RW

set_option Elab.async false
set_option linter.all false
set_option maxRecDepth 100000
set_option maxHeartbeats 4000000
namespace RW
open PySem PySem.Spec PyProof.Rows L2
open Evl (Ex)
section
variable {K : PySem.W.Frag} {n : Nat} {te ta tb tc to ti : TE} {tt tu : TT} {tA tR : TA} {env env' : Env1} {S S1 S2 S3 : List Dat} {x y z : Sl} {d e : Dat} {ds es : List Dat} {r r' : R2} {P P' : Post} {t u : TS}
  {B B0 B1 B' H H0 H1 H' : Hp} {as as0 as1 : List Addr} {D : Ends} {σ : L2.St} {i : Nat} {a b c : Bool}
/-! ### truth -/
theorem et_test (h : Ev K te env S (.d (.bl b)) S1) : EvT K (tTest te) env S b S1 := fun B H as σ c g Q q => h B H as σ c g _ fun v B1 H1 c1 e1 r1 => by
  cases r1; exact ⟨b, rfl, q B1 H1 c1 e1⟩
theorem et_B (h : Ev K te env S (.d (.bl b)) S1) : EvT K (tB te) env S b S1 := fun B H as σ c g Q q => h B H as σ c g _ fun v B1 H1 c1 e1 r1 => by
  cases r1; exact ⟨b, rfl, q B1 H1 c1 e1⟩
theorem et_yes : EvT K tYes env S true S := fun B H as σ c g Q q => q B H c Evo.refl
theorem et_and (h1 : EvT K tt env S a S1) (h2 : a = true → EvT K tu env S1 b S2) (h3 : a = false → S2 = S1 ∧ b = false) : EvT K (tAnd tt tu) env S b S2 := fun B H as σ c g Q q =>
  h1 B H as σ c g _ fun B1 H1 c1 e1 => by
    cases a with
    | true => exact h2 rfl B1 H1 as σ c1 (g.mono e1.ex) Q fun B2 H2 c2 e2 => q B2 H2 c2 (e1.trans e2)
    | false =>
      obtain ⟨e2, e3⟩ := h3 rfl
      subst e2 e3
      exact q B1 H1 c1 e1
theorem et_or (h1 : EvT K tt env S a S1) (h2 : a = false → EvT K tu env S1 b S2) (h3 : a = true → S2 = S1 ∧ b = true) : EvT K (tOr tt tu) env S b S2 := fun B H as σ c g Q q =>
  h1 B H as σ c g _ fun B1 H1 c1 e1 => by
    cases a with
    | false => exact h2 rfl B1 H1 as σ c1 (g.mono e1.ex) Q fun B2 H2 c2 e2 => q B2 H2 c2 (e1.trans e2)
    | true =>
      obtain ⟨e2, e3⟩ := h3 rfl
      subst e2 e3
      exact q B1 H1 c1 e1
/-- both without change -/
theorem et_andP (h1 : EvT K tt env S a S) (h2 : a = true → EvT K tu env S b S) : EvT K (tAnd tt tu) env S (a && b) S := by
  cases a with
  | true => exact et_and h1 (fun _ => by simpa using h2 rfl) (fun h => by cases h)
  | false => exact et_and h1 (fun h => by cases h) (fun _ => ⟨rfl, rfl⟩)
theorem et_orP (h1 : EvT K tt env S a S) (h2 : a = false → EvT K tu env S b S) : EvT K (tOr tt tu) env S (a || b) S := by
  cases a with
  | false => exact et_or h1 (fun _ => by simpa using h2 rfl) (fun h => by cases h)
  | true => exact et_or h1 (fun h => by cases h) (fun _ => ⟨rfl, rfl⟩)
theorem et_not (h1 : EvT K tt env S a S1) : EvT K (tNot tt) env S (!a) S1 := fun B H as σ c g Q q => h1 B H as σ c g _ fun B1 H1 c1 e1 => q B1 H1 c1 e1
theorem ev_andV (h1 : Ev K ta env S (.d (.bl a)) S) (h2 : a = true → Ev K tb env S (.d (.bl b)) S) : Ev K (tAndV ta tb) env S (.d (.bl (a && b))) S := fun B H as σ c g Q q =>
  h1 B H as σ c g _ fun v B1 H1 c1 e1 r1 => by
    cases r1
    refine ⟨a, rfl, ?_⟩
    cases a with
    | true => exact h2 rfl B1 H1 as σ c1 (g.mono e1.ex) Q fun v B2 H2 c2 e2 r2 => q v B2 H2 c2 (e1.trans e2) r2
    | false => exact q _ B1 H1 c1 e1 (.bl false)
theorem ev_orV (h1 : Ev K ta env S (.d (.bl a)) S) (h2 : a = false → Ev K tb env S (.d (.bl b)) S) : Ev K (tOrV ta tb) env S (.d (.bl (a || b))) S := fun B H as σ c g Q q =>
  h1 B H as σ c g _ fun v B1 H1 c1 e1 r1 => by
    cases r1
    refine ⟨a, rfl, ?_⟩
    cases a with
    | false => exact h2 rfl B1 H1 as σ c1 (g.mono e1.ex) Q fun v B2 H2 c2 e2 r2 => q v B2 H2 c2 (e1.trans e2) r2
    | true => exact q _ B1 H1 c1 e1 (.bl true)
theorem ev_notV (h1 : Ev K ta env S (.d (.bl a)) S1) : Ev K (tNotV ta) env S (.d (.bl (!a))) S1 := fun B H as σ c g Q q =>
  h1 B H as σ c g _ fun v B1 H1 c1 e1 r1 => by
    cases r1
    exact ⟨a, rfl, q _ B1 H1 c1 e1 (.bl _)⟩
theorem ev_if (h : EvT K tt env S b S1) (h1 : b = true → Ev K ta env S1 x S2) (h2 : b = false → Ev K tb env S1 x S2) : Ev K (tIf tt ta tb) env S x S2 := fun B H as σ c g Q q =>
  h B H as σ c g _ fun B1 H1 c1 e1 => by
    cases b with
    | true => exact h1 rfl B1 H1 as σ c1 (g.mono e1.ex) Q fun v B2 H2 c2 e2 r2 => q v B2 H2 c2 (e1.trans e2) r2
    | false => exact h2 rfl B1 H1 as σ c1 (g.mono e1.ex) Q fun v B2 H2 c2 e2 r2 => q v B2 H2 c2 (e1.trans e2) r2
/-- a op b op' c -/
theorem ev_chain (h1 : Ev K ta env S x S1) (h2 : Ev K tb env S1 y S2) (hr : Op2 K r x y S2 (.bl a)) (h3 : a = true → Ev K tc env S2 z S2) (hr' : a = true → Op2 K r' y z S2 (.bl b)) : Ev K (tChain r r' ta tb tc) env S (.d (.bl (a && b))) S2 := fun B H as σ c g Q q =>
  h1 B H as σ c g _ fun v B1 H1 c1 e1 r1 => h2 B1 H1 as σ c1 (g.mono e1.ex) _ fun w B2 H2 c2 e2 r2 => hr B2 H2 as v w c2 (r1.mono e2.ex) r2 _ fun u B3 H3 c3 e3 r3 => by
    cases r3
    refine ⟨a, rfl, ?_⟩
    have e03 := (e1.trans e2).trans e3
    cases a with
    | true => exact h3 rfl B3 H3 as σ c3 (g.mono e03.ex) _ fun w' B4 H4 c4 e4 r4 => hr' rfl B4 H4 as w w' c4 ((r2.mono e3.ex).mono e4.ex) r4 Q fun u B5 H5 c5 e5 r5 => q u B5 H5 c5 ((e03.trans e4).trans e5) r5
    | false => exact q _ B3 H3 c3 e03 (.bl false)
/-- truth of a list, a tuple (if xs:) -/
def tTru (K : PySem.W.Frag) (ta : TE) : TT := fun σ H Q => ta σ H fun x H' => ∃ k, TruV K x H' k ∧ Q k H'
theorem pt_tru {X : Cx} {e : Expr} {ta : TE} (ha : PE X e ta) (he : ∀ whole, isTrue e X.env whole = (do let v ← whole; standAt e.pos; holding [v] (truthy v)) := by intro _; rfl) : PT X e (tTru X.K ta) := pt_truth ha he
theorem isEmpty_reps {vs : List V} {ds : List Dat} (r : Reps K B vs ds) : vs.isEmpty = ds.isEmpty := by cases r <;> rfl
theorem et_seq (h : Ev K ta env S x S1) (hs : Seq S1 x ds) : EvT K (tTru K ta) env S (!ds.isEmpty) S1 := fun B H as σ c g Q q => h B H as σ c g _ fun v B1 H1 c1 e1 r1 => by
  obtain ⟨a, k, vs, rfl, hq, hr⟩ := hs.read c1 r1
  refine ⟨!ds.isEmpty, ?_, q B1 H1 c1 e1⟩
  rw [← isEmpty_reps hr]
  cases k with
  | true => exact .inl ⟨vs, hq, rfl⟩
  | false => exact .inr (.inl ⟨vs, hq, rfl⟩)
theorem et_bl (h : Ev K ta env S (.d (.bl b)) S1) : EvT K (tTru K ta) env S b S1 := fun B H as σ c g Q q => h B H as σ c g _ fun v B1 H1 c1 e1 r1 => by
  cases r1; exact ⟨b, rfl, q B1 H1 c1 e1⟩

/-! ### calls of built-ins by values -/
theorem ev_cb {r : List V → Hp → VK → Prop} {xs : List Sl} (h : EvA K tA env S xs S1) (hc : CallD K r xs S1 d S2) : Ev K (tCB r tA) env S (.d d) S2 := fun B H as σ c g Q q =>
  h B H as σ c g _ fun vs B1 H1 c1 e1 r1 => hc B1 H1 as vs c1 r1 Q fun u B2 H2 c2 e2 r2 => q u B2 H2 c2 (e1.trans e2) r2
def rLenD (K : PySem.W.Frag) : List V → Hp → VK → Prop := fun xs H Q => ∃ p ys, xs = [.ref p] ∧ (SqL K H p ys ∨ SqT K H p ys) ∧ Q (.int ys.length) H
theorem call_lenD {X : Cx} : CallR X (.builtin "len") (rLenD X.K) := call_len_seq
theorem cd_len (h : Seq S x ds) : CallD K (rLenD K) [x] S (.int ds.length) S := fun B H as vs c r Q q => by
  cases r with
  | cons r1 rr =>
    cases rr
    obtain ⟨a, k, ws, rfl, hq, hr⟩ := h.read c r1
    exact ⟨a, ws, rfl, sq_or hq, by rw [hr.length]; exact q _ B H c Evo.refl (.int _)⟩
theorem cd_lenS {ns : List Int} : CallD K (rLenD K) [.d (.scr ns)] S (.int ns.length) S := fun B H as vs c r Q q => by
  cases r with
  | cons r1 rr =>
    cases rr
    cases r1 with
    | scr h =>
      refine ⟨_, _, rfl, .inl (Evl.ex_l c.ex h), ?_⟩
      rw [List.length_map]
      exact q _ B H c Evo.refl (.int _)
theorem cd_sum {ns : List Int} (h : SeqL S x (ns.map Dat.int)) : CallD K (rSum K) [x] S (.int ns.sum) S := fun B H as vs c r Q q => by
  cases r with
  | cons r1 rr =>
    cases rr
    obtain ⟨a, ws, rfl, hq, hr⟩ := h.read c r1
    rw [hr.ints] at hq
    exact ⟨a, ns, rfl, Evl.sq_of hq, q _ B H c Evo.refl (.int _)⟩
theorem cd_all {bs : List Bool} (h : SeqL S x (bs.map Dat.bl)) : CallD K (rAll K) [x] S (.bl (bs.all id)) S := fun B H as vs c r Q q => by
  cases r with
  | cons r1 rr =>
    cases rr
    obtain ⟨a, ws, rfl, hq, hr⟩ := h.read c r1
    rw [hr.bls] at hq
    exact ⟨a, bs, rfl, Evl.sq_of hq, q _ B H c Evo.refl (.bl _)⟩
theorem cd_any {bs : List Bool} (h : SeqL S x (bs.map Dat.bl)) : CallD K (rAny K) [x] S (.bl (bs.any id)) S := fun B H as vs c r Q q => by
  cases r with
  | cons r1 rr =>
    cases rr
    obtain ⟨a, ws, rfl, hq, hr⟩ := h.read c r1
    rw [hr.bls] at hq
    exact ⟨a, bs, rfl, Evl.sq_of hq, q _ B H c Evo.refl (.bl _)⟩
def rTupD (K : PySem.W.Frag) : List V → Hp → VK → Prop := fun xs H Q => ∃ p ys, xs = [.ref p] ∧ ((SqL K H p ys ∧ ∀ l, H l = none → Q (.ref l) (upd H l (.tup ys))) ∨ (SqT K H p ys ∧ Q (.ref p) H))
theorem call_tupD {X : Cx} (hc : X.calm = true) : CallR X (.type "tuple") (rTupD X.K) := by first | exact call_tuple_of | exact call_tuple_of hc
theorem cd_tup (h : SeqL S x ds) : CallD K (rTupD K) [x] S (.tup ds) S := fun B H as vs c r Q q => by
  cases r with
  | cons r1 rr =>
    cases rr
    obtain ⟨a, ws, rfl, hq, hr⟩ := h.read c r1
    exact ⟨a, ws, rfl, .inl ⟨Evl.sq_of hq, fun l hl => q _ (upd B l (.tup ws)) _ (c.new hl) (Evo.new c hl) (.tup (Evl.st_of upd_same) (hr.mono (Evl.Ex.new (c.Bnone hl))))⟩⟩
def rLstD (K : PySem.W.Frag) : List V → Hp → VK → Prop := fun xs H Q => ∃ p ys, xs = [.ref p] ∧ (SqL K H p ys ∨ SqT K H p ys) ∧ ∀ l, H l = none → Q (.ref l) (upd H l (.lst ys))
theorem call_lstD {X : Cx} (hc : X.calm = true) : CallR X (.type "list") (rLstD X.K) := by first | exact call_list_of | exact call_list_of hc
theorem en_list (h : EvA K tA env S [x] S1) (hs : Seq S1 x ds) : EvN K (tCB (rLstD K) tA) env S ds S1 := fun B H as σ c g Q q =>
  h B H as σ c g _ fun vs B1 H1 c1 e1 r1 => by
    cases r1 with
    | cons r1 rr =>
      cases rr
      obtain ⟨a, k, ws, rfl, hq, hr⟩ := hs.read c1 r1
      exact ⟨a, ws, rfl, sq_or hq, fun l hl => evn_new c c1 e1 hl hr q⟩
def rMax2D : List V → Hp → VK → Prop := fun xs H Q => ∃ i j, xs = [.int i, .int j] ∧ Q (.int (if j > i then j else i)) H
theorem call_max2D {X : Cx} (hc : X.calm = true) : CallR X (.builtin "max") rMax2D := call_max2 hc
theorem cd_max2 {i j : Int} : CallD K rMax2D [.d (.int i), .d (.int j)] S (.int (max i j)) S := fun B H as vs c r Q q => by
  cases r with
  | cons r1 rr =>
    cases rr with
    | cons r2 rr =>
      cases rr; cases r1; cases r2
      refine ⟨i, j, rfl, ?_⟩
      have e : (if j > i then j else i) = max i j := by rw [Int.max_def]; split <;> split <;> omega
      rw [e]
      exact q _ B H c Evo.refl (.int _)
def rMin2D : List V → Hp → VK → Prop := fun xs H Q => ∃ i j, xs = [.int i, .int j] ∧ Q (.int (if j < i then j else i)) H
theorem call_min2D {X : Cx} (hc : X.calm = true) : CallR X (.builtin "min") rMin2D := call_min2 hc
theorem cd_min2 {i j : Int} : CallD K rMin2D [.d (.int i), .d (.int j)] S (.int (min i j)) S := fun B H as vs c r Q q => by
  cases r with
  | cons r1 rr =>
    cases rr with
    | cons r2 rr =>
      cases rr; cases r1; cases r2
      refine ⟨i, j, rfl, ?_⟩
      have e : (if j < i then j else i) = min i j := by rw [Int.min_def]; split <;> split <;> omega
      rw [e]
      exact q _ B H c Evo.refl (.int _)
def rAbsD : List V → Hp → VK → Prop := fun xs H Q => ∃ i, xs = [.int i] ∧ Q (.int (if i < 0 then -i else i)) H
theorem call_absD {X : Cx} : CallR X (.builtin "abs") rAbsD := call_abs
theorem cd_abs {i : Int} : CallD K rAbsD [.d (.int i)] S (.int (i.natAbs : Int)) S := fun B H as vs c r Q q => by
  cases r with
  | cons r1 rr =>
    cases rr; cases r1
    refine ⟨i, rfl, ?_⟩
    have e : (if i < 0 then -i else i) = (i.natAbs : Int) := by split <;> omega
    rw [e]
    exact q _ B H c Evo.refl (.int _)
def rIntD : List V → Hp → VK → Prop := fun xs H Q => (∃ i, xs = [.int i] ∧ Q (.int i) H) ∨ ∃ b, xs = [.bl b] ∧ Q (.int (b2i b)) H
theorem call_intD {X : Cx} : CallR X (.type "int") rIntD := call_int1
theorem cd_int {i : Int} : CallD K rIntD [.d (.int i)] S (.int i) S := fun B H as vs c r Q q => by
  cases r with
  | cons r1 rr =>
    cases rr; cases r1
    exact .inl ⟨i, rfl, q _ B H c Evo.refl (.int _)⟩
theorem cd_intB : CallD K rIntD [.d (.bl b)] S (.int (b2i b)) S := fun B H as vs c r Q q => by
  cases r with
  | cons r1 rr =>
    cases rr; cases r1
    exact .inr ⟨b, rfl, q _ B H c Evo.refl (.int _)⟩
end
end RW

set_option Elab.async false
set_option linter.all false
set_option maxRecDepth 100000
set_option maxHeartbeats 4000000
namespace RW
open PySem PySem.Spec PyProof.Rows L2
open Evl (Ex)
section
variable {K : PySem.W.Frag} {n : Nat} {te ta tb tc to ti : TE} {tt tu : TT} {tA tR : TA} {env env' : Env1} {S S1 S2 S3 : List Dat} {x y z : Sl} {d e : Dat} {ds es : List Dat} {r r' : R2} {P P' : Post} {t u : TS}
  {B B0 B1 B' H H0 H1 H' : Hp} {as as0 as1 : List Addr} {D : Ends} {σ : L2.St} {i : Nat} {a b c : Bool}
/-! ### + and slices -/
theorem reps_nil {vs : List V} : Reps K B vs [] → vs = [] := fun h => by cases h; rfl
theorem reps_ne {vs : List V} (r : Reps K B vs ds) : vs = [] ↔ ds = [] := by cases r <;> simp
theorem op2_catT (hl : ds.length + es.length ≤ sizeLine) : Op2 K (rCatA K) (.d (.tup ds)) (.d (.tup es)) S (.tup (ds ++ es)) := fun B H as v w c h1 h2 Q q => by
  cases h1 with
  | tup h1 r1 =>
    cases h2 with
    | tup h2 r2 =>
      rename_i a1 xs a2 ys
      refine ⟨a1, a2, xs, ys, rfl, rfl, Evl.ex_t c.ex h1, Evl.ex_t c.ex h2, by rw [r1.length, r2.length]; exact hl, fun e => ?_, fun _ e => ?_, fun _ _ p hp => ?_⟩
      · have : ds = [] := (reps_ne r1).mp e
        subst this
        exact q _ B H c Evo.refl (.tup h2 r2)
      · have : es = [] := (reps_ne r2).mp e
        subst this
        rw [List.append_nil] at q
        exact q _ B H c Evo.refl (.tup h1 r1)
      · exact q _ (upd B p _) _ (c.new hp) (Evo.new c hp) (.tup (Evl.st_of upd_same) ((r1.append r2).mono (Evl.Ex.new (c.Bnone hp))))
/-- a binary operation that makes a new list -/
theorem en_cat {ds es : List Dat} (ha : Ev K ta env S x S1) (hb : Ev K tb env S1 y S2) (hx : SeqL S2 x ds) (hy : SeqL S2 y es) (hl : ds.length + es.length ≤ sizeLine) : EvN K (tOp rCat ta tb) env S (ds ++ es) S2 := fun B H as σ c g Q q =>
  ha B H as σ c g _ fun v B1 H1 c1 e1 r1 => hb B1 H1 as σ c1 (g.mono e1.ex) _ fun w B2 H2 c2 e2 r2 => by
    obtain ⟨a1, xs, rfl, h1, q1⟩ := hx.read c2 (r1.mono e2.ex)
    obtain ⟨a2, ys, rfl, h2, q2⟩ := hy.read c2 r2
    exact ⟨a1, a2, xs, ys, rfl, rfl, h1, h2, by rw [q1.length, q2.length]; exact hl, fun p hp => evn_new c c2 (e1.trans e2) hp (q1.append q2) q⟩
theorem reps_rep {vs : List V} (r : Reps K B vs ds) : ∀ k : Nat, Reps K B (List.replicate k vs).flatten (List.replicate k ds).flatten
  | 0 => .nil
  | k + 1 => by
    rw [List.replicate_succ, List.replicate_succ, List.flatten_cons, List.flatten_cons]
    exact r.append (reps_rep r k)
theorem en_rep {ds : List Dat} {k : Int} (ha : Ev K ta env S x S1) (hb : Ev K tb env S1 (.d (.int k)) S2) (hx : SeqL S2 x ds) (hk : -(2 ^ 63) ≤ k ∧ k < 2 ^ 63) (hl : ds.length * k.toNat ≤ sizeLine) : EvN K (tOp rRep ta tb) env S (List.replicate k.toNat ds).flatten S2 := fun B H as σ c g Q q =>
  ha B H as σ c g _ fun v B1 H1 c1 e1 r1 => hb B1 H1 as σ c1 (g.mono e1.ex) _ fun w B2 H2 c2 e2 r2 => by
    obtain ⟨a1, xs, rfl, h1, q1⟩ := hx.read c2 (r1.mono e2.ex)
    cases r2
    exact ⟨a1, k, xs, rfl, rfl, h1, hk.1, hk.2, by rw [q1.length]; exact hl, fun p hp => evn_new c c2 (e1.trans e2) hp (reps_rep q1 _) q⟩
def cutD (xs : List Dat) (lo hi : Option Int) : List Dat := (xs.drop (HT.sIx xs.length 0 lo)).take (HT.sIx xs.length xs.length hi - HT.sIx xs.length 0 lo)
theorem reps_cut {vs : List V} (r : Reps K B vs ds) (lo hi : Option Int) : Reps K B (cutV vs lo hi) (cutD ds lo hi) := by
  unfold cutV cutD
  rw [r.length]
  exact (r.drop _).take _
def EvO (K : PySem.W.Frag) (to : TO) (env : Env1) (S : List Dat) (o : Option Int) (S' : List Dat) : Prop :=
  ∀ B H as σ, Ok K B H as S → EnvR K B as σ env → ∀ Q : Option Int → Hp → Prop, (∀ B' H', Ok K B' H' as S' → Evo B H as B' H' → Q o H') → to σ H Q
theorem eo_none : EvO K tNoPart env S none S := fun B H as σ c g Q q => q B H c Evo.refl
theorem eo_some {k : Int} (h : Ev K te env S (.d (.int k)) S1) : EvO K (tPart te) env S (some k) S1 := fun B H as σ c g Q q => h B H as σ c g _ fun v B1 H1 c1 e1 r1 => by
  cases r1; exact ⟨k, rfl, q B1 H1 c1 e1⟩
theorem cutD_whole {lo hi : Option Int} (h : HT.sIx ds.length 0 lo = 0 ∧ HT.sIx ds.length ds.length hi = ds.length) : cutD ds lo hi = ds := by
  unfold cutD
  rw [h.1, h.2, List.drop_zero, Nat.sub_zero, List.take_length]
/-- t[lo:hi], a tuple -/
theorem ev_slT {tl th : TO} {lo hi : Option Int} (h : Ev K te env S (.d (.tup ds)) S1) (hl : EvO K tl env S1 lo S2) (hh : EvO K th env S2 hi S3) : Ev K (tSl (rSlA K) te tl th) env S (.d (.tup (cutD ds lo hi))) S3 := fun B H as σ c g Q q =>
  h B H as σ c g _ fun v B1 H1 c1 e1 r1 => hl B1 H1 as σ c1 (g.mono e1.ex) _ fun B2 H2 c2 e2 => hh B2 H2 as σ c2 (g.mono (e1.trans e2).ex) _ fun B3 H3 c3 e3 => by
    have r3 : Rep K B3 v (.tup ds) := Rep.mono (e2.trans e3).ex r1
    have e03 := (e1.trans e2).trans e3
    cases r3 with
    | tup h1 r1 =>
      refine ⟨_, _, rfl, Evl.ex_t c3.ex h1, fun hw => ?_, fun hw p hp => ?_⟩
      · rw [r1.length] at hw
        rw [cutD_whole hw] at q
        exact q _ B3 H3 c3 e03 (.tup h1 r1)
      · exact q _ (upd B3 p _) _ (c3.new hp) (e03.trans (Evo.new c3 hp)) (.tup (Evl.st_of upd_same) ((reps_cut r1 lo hi).mono (Evl.Ex.new (c3.Bnone hp))))
/-- xs[lo:hi], a list -/
theorem en_slL {tl th : TO} {lo hi : Option Int} (h : Ev K te env S x S1) (hl : EvO K tl env S1 lo S2) (hh : EvO K th env S2 hi S3) (hx : SeqL S3 x ds) : EvN K (tSl (rSlL K) te tl th) env S (cutD ds lo hi) S3 := fun B H as σ c g Q q =>
  h B H as σ c g _ fun v B1 H1 c1 e1 r1 => hl B1 H1 as σ c1 (g.mono e1.ex) _ fun B2 H2 c2 e2 => hh B2 H2 as σ c2 (g.mono (e1.trans e2).ex) _ fun B3 H3 c3 e3 => by
    obtain ⟨a1, xs, rfl, h1, q1⟩ := hx.read c3 (r1.mono (e2.trans e3).ex)
    exact ⟨a1, xs, rfl, Evl.sq_of h1, fun p hp => evn_new c c3 ((e1.trans e2).trans e3) hp (reps_cut q1 lo hi) q⟩

/-! ### what is walked -/
structure WalkD (K : PySem.W.Frag) (B : Hp) (J : It) (G : List Addr → List Dat → Prop) (ds : List Dat) : Prop where
  go : ∀ B2 H2 as2 S2 i, Ex B B2 → Ok K B2 H2 as2 S2 → G as2 S2 → i < ds.length → J.go i H2
  yld : ∀ B2 H2 as2 S2 i x H3, Ex B B2 → Ok K B2 H2 as2 S2 → G as2 S2 → i < ds.length → J.yld i H2 x H3 → ∃ B3 d, Ok K B3 H3 as2 S2 ∧ Evo B2 H2 as2 B3 H3 ∧ ds[i]? = some d ∧ Rep K B3 x d
  stop : ∀ B2 H2 as2 S2, Ex B B2 → Ok K B2 H2 as2 S2 → G as2 S2 → J.stop ds.length H2
def IterD (K : PySem.W.Frag) (wi : TI) (env : Env1) (S : List Dat) (G : List Addr → List Addr → List Dat → Prop) (ds : List Dat) (S1 : List Dat) : Prop :=
  ∀ B H as σ, Ok K B H as S → EnvR K B as σ env → ∀ R : It → Hp → Prop, (∀ J B1 H1, Ok K B1 H1 as S1 → Evo B H as B1 H1 → WalkD K B1 J (G as) ds → R J H1) → wi σ H R
/-- nothing is asked: what is walked is known -/
def G0 : List Addr → List Addr → List Dat → Prop := fun _ _ _ => True
/-- the k-th changed thing, left as it is while it is walked -/
def Gc (k : Nat) (ds : List Dat) : List Addr → List Addr → List Dat → Prop := fun as as2 S2 => as2[k]? = as[k]? ∧ S2[k]? = some (.lst ds)
theorem walk_known {a : Addr} {vs : List V} {k : Bool} (hq : Sq K k B a vs) (r : Reps K B vs ds) (G : List Addr → List Dat → Prop) : WalkD K B (ItS K k a) G ds where
  go := fun B2 H2 as2 S2 i e c _ hi => by
    obtain ⟨v, hv, _⟩ := r.get (List.getElem?_eq_getElem hi)
    cases k with
    | true => exact ⟨vs, v, Evl.ex_l c.ex (Evl.ex_l e hq), hv⟩
    | false => exact ⟨vs, v, Evl.ex_t c.ex (Evl.ex_t e hq), hv⟩
  yld := fun B2 H2 as2 S2 i x H3 e c _ hi y => by
    obtain ⟨v, hv, rv⟩ := r.get (List.getElem?_eq_getElem hi)
    cases k with
    | true =>
      obtain ⟨rfl, y⟩ := y
      have := y vs (Evl.ex_l c.ex (Evl.ex_l e hq))
      rw [hv] at this
      cases this
      exact ⟨B2, _, c, Evo.refl, List.getElem?_eq_getElem hi, rv.mono e⟩
    | false =>
      obtain ⟨rfl, y⟩ := y
      have := y vs (Evl.ex_t c.ex (Evl.ex_t e hq))
      rw [hv] at this
      cases this
      exact ⟨B2, _, c, Evo.refl, List.getElem?_eq_getElem hi, rv.mono e⟩
  stop := fun B2 H2 as2 S2 e c _ => by
    cases k with
    | true => exact ⟨vs, Evl.ex_l c.ex (Evl.ex_l e hq), by rw [r.length]; exact Nat.le_refl _⟩
    | false => exact ⟨vs, Evl.ex_t c.ex (Evl.ex_t e hq), by rw [r.length]; exact Nat.le_refl _⟩
theorem it_lst (h : Ev K te env S (.d (.lst ds)) S1) : IterD K (iSeq K te) env S G0 ds S1 := fun B H as σ c g R q => h B H as σ c g _ fun v B1 H1 c1 e1 r1 => by
  cases r1 with
  | lst h r => exact ⟨_, true, rfl, ⟨_, Evl.sq_of (c1.ex _ _ h)⟩, q _ B1 H1 c1 e1 (walk_known (k := true) (Evl.sq_of h) r _)⟩
theorem it_tup (h : Ev K te env S (.d (.tup ds)) S1) : IterD K (iSeq K te) env S G0 ds S1 := fun B H as σ c g R q => h B H as σ c g _ fun v B1 H1 c1 e1 r1 => by
  cases r1 with
  | tup h r => exact ⟨_, false, rfl, ⟨_, Evl.ex_t c1.ex h⟩, q _ B1 H1 c1 e1 (walk_known (k := false) h r _)⟩
theorem it_cell {k : Nat} (h : Ev K te env S (.c k) S1) (hk : S1[k]? = some (.lst ds)) : IterD K (iSeq K te) env S (Gc k ds) ds S1 := fun B H as σ c g R q => h B H as σ c g _ fun v B1 H1 c1 e1 r1 => by
  obtain ⟨a, ha, rfl⟩ := r1
  obtain ⟨_, q0⟩ := c1.cells k a _ ha hk
  obtain ⟨vs, hv, rv⟩ := q0.lst
  have rd : ∀ {B2 H2 as2 S2}, Ok K B2 H2 as2 S2 → Gc k ds as as2 S2 → ∃ ws, H2 a = some (.lst ws) ∧ Reps K B2 ws ds := fun {B2 H2 as2 S2} c2 g2 => by
    obtain ⟨g1, g2⟩ := g2
    obtain ⟨_, q0⟩ := c2.cells k a _ (g1.trans ha) g2
    obtain ⟨ws, hw, rw'⟩ := q0.lst
    exact ⟨ws, hw, rw'⟩
  refine ⟨a, true, rfl, ⟨vs, Evl.sq_of hv⟩, q _ B1 H1 c1 e1 ⟨fun B2 H2 as2 S2 i e c2 g2 hi => ?_, fun B2 H2 as2 S2 i x H3 e c2 g2 hi y => ?_, fun B2 H2 as2 S2 e c2 g2 => ?_⟩⟩
  · obtain ⟨ws, hw, rw'⟩ := rd c2 g2
    obtain ⟨v, hv, _⟩ := rw'.get (List.getElem?_eq_getElem hi)
    exact ⟨ws, v, Evl.sq_of hw, hv⟩
  · obtain ⟨ws, hw, rw'⟩ := rd c2 g2
    obtain ⟨v, hv, rv⟩ := rw'.get (List.getElem?_eq_getElem hi)
    obtain ⟨rfl, y⟩ := y
    have := y ws (Evl.sq_of hw)
    rw [hv] at this
    cases this
    exact ⟨B2, _, c2, Evo.refl, List.getElem?_eq_getElem hi, rv⟩
  · obtain ⟨ws, hw, rw'⟩ := rd c2 g2
    exact ⟨ws, Evl.sq_of hw, by rw [rw'.length]; exact Nat.le_refl _⟩
theorem it_script {ns : List Int} (h : Ev K te env S (.d (.scr ns)) S1) : IterD K (iSeq K te) env S G0 (ns.map Dat.int) S1 := fun B H as σ c g R q => h B H as σ c g _ fun v B1 H1 c1 e1 r1 => by
  cases r1 with
  | scr h =>
    have rr : ∀ ns : List Int, Reps K B1 (ns.map V.int) (ns.map Dat.int) := fun ns => by
      induction ns with
      | nil => exact .nil
      | cons n ns ih => exact .cons (.int n) ih
    exact ⟨_, true, rfl, ⟨_, Evl.ex_l c1.ex h⟩, q _ B1 H1 c1 e1 (walk_known (k := true) h (rr ns) _)⟩
/-- range(n), range(lo, hi) -/
def rng (lo : Int) (n : Nat) : List Dat := (List.range n).map fun i => Dat.int (lo + (i : Nat))
theorem rng_get {lo : Int} {n i : Nat} (h : i < n) : (rng lo n)[i]? = some (.int (lo + (i : Nat))) := by
  unfold rng
  rw [List.getElem?_map, List.getElem?_range h]
  rfl
theorem rng_len {lo : Int} {n : Nat} : (rng lo n).length = n := by unfold rng; rw [List.length_map, List.length_range]
theorem walk_rng {lo : Int} {n : Nat} {G : List Addr → List Dat → Prop} : WalkD K B (Itr lo n) G (rng lo n) where
  go := fun B2 H2 as2 S2 i _ _ _ hi => by rw [rng_len] at hi; exact hi
  yld := fun B2 H2 as2 S2 i x H3 _ c _ hi y => by
    rw [rng_len] at hi
    obtain ⟨rfl, rfl⟩ := y
    exact ⟨B2, _, c, Evo.refl, rng_get hi, .int _⟩
  stop := fun B2 H2 as2 S2 _ _ _ => by rw [rng_len]; exact Nat.le_refl _
theorem it_range1 {j : Int} (h : EvA K tA env S [.d (.int j)] S1) (hj : -(2 ^ 62) ≤ j ∧ j < 2 ^ 62) : IterD K (iRng1 tA) env S G0 (rng 0 j.toNat) S1 := fun B H as σ c g R q => h B H as σ c g _ fun vs B1 H1 c1 e1 r1 => by
  cases r1 with
  | cons r1 rr =>
    cases rr; cases r1
    exact ⟨j, rfl, hj.1, hj.2, q _ B1 H1 c1 e1 walk_rng⟩
theorem it_range2 {i j : Int} (h : EvA K tA env S [.d (.int i), .d (.int j)] S1) (hi : -(2 ^ 62) ≤ i ∧ i < 2 ^ 62) (hj : -(2 ^ 62) ≤ j ∧ j < 2 ^ 62) : IterD K (iRng2 tA) env S G0 (rng i (j - i).toNat) S1 := fun B H as σ c g R q => h B H as σ c g _ fun vs B1 H1 c1 e1 r1 => by
  cases r1 with
  | cons r1 rr =>
    cases rr with
    | cons r2 rr =>
      cases rr; cases r1; cases r2
      exact ⟨i, j, rfl, ⟨hi.1, hi.2, hj.1, hj.2⟩, q _ B1 H1 c1 e1 walk_rng⟩
/-- zip -/
def zipD (ds es : List Dat) : List Dat := List.zipWith (fun x y => Dat.tup [x, y]) ds es
theorem zipD_len : (zipD ds es).length = min ds.length es.length := by unfold zipD; rw [List.length_zipWith]
theorem zipD_get {i : Nat} {d e : Dat} (h1 : ds[i]? = some d) (h2 : es[i]? = some e) : (zipD ds es)[i]? = some (.tup [d, e]) := by
  unfold zipD
  rw [List.getElem?_zipWith, h1, h2]
/-- a sequence that stays: known data, or a changed thing that no one changes now -/
def GS (x : Sl) (ds : List Dat) : List Addr → List Addr → List Dat → Prop := match x with
  | .d _ => fun _ _ _ => True
  | .c k => fun as as2 S2 => as2[k]? = as[k]? ∧ S2[k]? = some (.lst ds)
theorem seq_stays {v : V} (c : Ok K B H as S) (hx : Seq S x ds) (r : RepS K B as v x) : ∃ a k, v = .ref a ∧ (∃ vs, Sq K k H a vs) ∧ ∀ B2 H2 as2 S2, Ex B B2 → Ok K B2 H2 as2 S2 → GS x ds as as2 S2 → ∃ ws, Sq K k H2 a ws ∧ Reps K B2 ws ds := by
  rcases hx with rfl | rfl | ⟨k, rfl, hk⟩
  · cases r with
    | lst h r => exact ⟨_, true, rfl, ⟨_, Evl.sq_of (c.ex _ _ h)⟩, fun B2 H2 as2 S2 e c2 _ => ⟨_, Evl.sq_of (c2.ex _ _ (e _ _ h)), r.mono e⟩⟩
  · cases r with
    | tup h r => exact ⟨_, false, rfl, ⟨_, Evl.ex_t c.ex h⟩, fun B2 H2 as2 S2 e c2 _ => ⟨_, Evl.ex_t c2.ex (Evl.ex_t e h), r.mono e⟩⟩
  · obtain ⟨a, ha, rfl⟩ := r
    obtain ⟨_, q0⟩ := c.cells k a _ ha hk
    obtain ⟨vs, hv, _⟩ := q0.lst
    refine ⟨a, true, rfl, ⟨vs, Evl.sq_of hv⟩, fun B2 H2 as2 S2 e c2 g2 => ?_⟩
    obtain ⟨g1, g2⟩ := g2
    obtain ⟨_, q0⟩ := c2.cells k a _ (g1.trans ha) g2
    obtain ⟨ws, hw, rw'⟩ := q0.lst
    exact ⟨ws, Evl.sq_of hw, rw'⟩
theorem sq_inj {k : Bool} {a : Addr} {xs ys : List V} (c : Ok K B H as S) (h1 : Sq K k H a xs) (h2 : Sq K k H a ys) (hk : ∀ o : Obj, K.lookup a = some o → False ∨ True) : True := trivial
theorem it_zip (h : EvA K tA env S [x, y] S1) (hx : Seq S1 x ds) (hy : Seq S1 y es) : IterD K (iZipG K tA) env S (fun as as2 S2 => GS x ds as as2 S2 ∧ GS y es as as2 S2) (zipD ds es) S1 := fun B H as σ c g R q => h B H as σ c g _ fun vs B1 H1 c1 e1 r1 => by
  cases r1 with
  | cons r1 rr =>
    cases rr with
    | cons r2 rr =>
      cases rr
      obtain ⟨a1, k1, rfl, ⟨w1, q1⟩, st1⟩ := seq_stays c1 hx r1
      obtain ⟨a2, k2, rfl, ⟨w2, q2⟩, st2⟩ := seq_stays c1 hy r2
      refine ⟨a1, a2, k1, k2, w1, w2, rfl, q1, q2, q _ B1 H1 c1 e1 ⟨fun B2 H2 as2 S2 i e c2 g2 hi => ?_, fun B2 H2 as2 S2 i x H3 e c2 g2 hi y => ?_, fun B2 H2 as2 S2 e c2 g2 => ?_⟩⟩
      · obtain ⟨u1, p1, rp1⟩ := st1 B2 H2 as2 S2 e c2 g2.1
        obtain ⟨u2, p2, rp2⟩ := st2 B2 H2 as2 S2 e c2 g2.2
        rw [zipD_len] at hi
        obtain ⟨v1, hv1, _⟩ := rp1.get (List.getElem?_eq_getElem (show i < ds.length by omega))
        obtain ⟨v2, hv2, _⟩ := rp2.get (List.getElem?_eq_getElem (show i < es.length by omega))
        exact ⟨u1, u2, v1, v2, p1, p2, hv1, hv2⟩
      · obtain ⟨u1, p1, rp1⟩ := st1 B2 H2 as2 S2 e c2 g2.1
        obtain ⟨u2, p2, rp2⟩ := st2 B2 H2 as2 S2 e c2 g2.2
        obtain ⟨T, v1, v2, rfl, hT, rfl, y1, y2⟩ := y
        obtain ⟨d1, hd1, r1⟩ := rp1.get' (y1 u1 p1)
        obtain ⟨d2, hd2, r2⟩ := rp2.get' (y2 u2 p2)
        have hB : Ex B2 (upd B2 T (.tup [v1, v2])) := Evl.Ex.new (c2.Bnone hT)
        exact ⟨upd B2 T (.tup [v1, v2]), .tup [d1, d2], c2.new hT, Evo.new c2 hT, zipD_get hd1 hd2, .tup (Evl.st_of upd_same) (.cons (r1.mono hB) (.cons (r2.mono hB) .nil))⟩
      · obtain ⟨u1, p1, rp1⟩ := st1 B2 H2 as2 S2 e c2 g2.1
        obtain ⟨u2, p2, rp2⟩ := st2 B2 H2 as2 S2 e c2 g2.2
        refine ⟨u1, u2, p1, p2, ?_, ?_, ?_⟩ <;> rw [zipD_len] <;> have := rp1.length <;> have := rp2.length <;> omega

/-! ### targets -/
def TgD (K : PySem.W.Frag) (g : TG) (d : Dat) (is : List Nat) (f : Env1 → Env1) : Prop :=
  ∀ B H as S σ env v, Ok K B H as S → EnvR K B as σ env → Rep K B v d → ∀ Q : L2.St → Hp → Prop, (∀ σ', EnvR K B as σ' (f env) → (∀ vs : List Nat, (∀ i ∈ is, i ∈ vs) → L2.wipe σ' vs = L2.wipe σ vs) → Q σ' H) → g v σ H Q
theorem set_comm_none {σ : L2.St} {i j : Nat} {x : Option V} (h : i ≠ j) : (σ.set i x).set j none = (σ.set j none).set i x := (List.set_comm _ _ h)
theorem wipe_set {σ : L2.St} {i : Nat} {x : Option V} : ∀ {vs : List Nat}, i ∈ vs → L2.wipe (σ.set i x) vs = L2.wipe σ vs
  | [], h => by cases h
  | v :: vs, h => by
    unfold L2.wipe
    by_cases hi : i ∈ vs
    · rw [wipe_set hi]
    · have hv : i = v := by
        rcases List.mem_cons.mp h with h | h
        · exact h
        · exact absurd h hi
      subst hv
      have key : ∀ ws : List Nat, i ∉ ws → L2.wipe (σ.set i x) ws = (L2.wipe σ ws).set i x := by
        intro ws
        induction ws with
        | nil => intro _; rfl
        | cons w ws ih =>
          intro hn
          unfold L2.wipe
          rw [ih (fun z => hn (List.mem_cons_of_mem _ z))]
          exact List.set_comm _ _ (fun z => hn (by rw [z]; exact List.mem_cons_self))
      rw [key vs hi, List.set_set]
theorem tg_name {j : Nat} : TgD K (gName j) d [j] (fun env => env.set j (some (.d d))) := fun B H as S σ env v c g r Q q =>
  q _ (EnvR.set (s := .d d) j g r) fun vs h => wipe_set (h j (by simp))
theorem tg_pair {j k : Nat} : TgD K (gTup K 2 (gCons (gName j) (gCons (gName k) gNil))) (.tup [d, e]) [j, k] (fun env => (env.set j (some (.d d))).set k (some (.d e))) := fun B H as S σ env v c g r Q q => by
  cases r with
  | tup h r =>
    cases r with
    | cons r1 r =>
      cases r with
      | cons r2 r =>
        cases r
        refine ⟨_, _, rfl, Evl.ex_t c.ex h, rfl, _, _, rfl, _, _, rfl, rfl, q _ (EnvR.set (s := .d e) k (EnvR.set (s := .d d) j g r1) r2) fun vs hv => ?_⟩
        rw [wipe_set (hv k (by simp)), wipe_set (hv j (by simp))]
theorem tg_three {j k l : Nat} {f : Dat} : TgD K (gTup K 3 (gCons (gName j) (gCons (gName k) (gCons (gName l) gNil)))) (.tup [d, e, f]) [j, k, l] (fun env => ((env.set j (some (.d d))).set k (some (.d e))).set l (some (.d f))) := fun B H as S σ env v c g r Q q => by
  cases r with
  | tup h r =>
    cases r with
    | cons r1 r =>
      cases r with
      | cons r2 r =>
        cases r with
        | cons r3 r =>
          cases r
          refine ⟨_, _, rfl, Evl.ex_t c.ex h, rfl, _, _, rfl, _, _, rfl, _, _, rfl, rfl, q _ (EnvR.set (s := .d f) l (EnvR.set (s := .d e) k (EnvR.set (s := .d d) j g r1) r2) r3) fun vs hv => ?_⟩
          rw [wipe_set (hv l (by simp)), wipe_set (hv k (by simp)), wipe_set (hv j (by simp))]
/-- (a, b) = e -/
theorem sp_asg {g : TG} {is : List Nat} {f : Env1 → Env1} (h : Ev K te env S (.d d) S1) (hg : TgD K g d is f) (k : SP K n u (f env) S1 P) : SP K n (tSeq (tAsg te g) u) env S P := fun B0 H0 as0 Bk B H as σ hl f0 c g0 D m =>
  h B H as σ c g0 _ fun v B1 H1 c1 e1 r1 => hg B1 H1 as S1 σ env v c1 (g0.mono e1.ex) r1 _ fun σ' g' _ => k B0 H0 as0 Bk B1 H1 as σ' hl (f0.step e1) c1 g' D m

/-! ### for -/
/-- env may know less -/
theorem sp_for {wi : TI} {g : TG} {tb : TS} {G : List Addr → List Addr → List Dat → Prop} (hw : IterD K wi env S G ds S1) (Inv : Nat → Env1 → List Dat → Prop) (h0 : Inv 0 env S1)
    (hG : ∀ i env' S' as as2, Inv i env' S' → as.length = S1.length → as2.length = S'.length → as2.take n = as.take n → G as as2 S')
    (hs : ∀ i d env' S', ds[i]? = some d → Inv i env' S' → ∃ is f, TgD K g d is f ∧ SP K n tb (f env') S' { P with nx := Inv (i + 1), ct := Inv (i + 1), bk := P.nx })
    (hd : ∀ env' S', Inv ds.length env' S' → P.nx env' S') : SP K n (tFor wi g tb) env S P := fun B0 H0 as0 Bk B H as σ hl f0 c g0 D m =>
  hw B H as σ c g0 _ fun J B1 H1 c1 e1 w => by
    subst hl
    have f1 := f0.step e1
    refine ⟨fun i mm σ' H' => mm = ds.length - i ∧ i ≤ ds.length ∧ ∃ env' S' B' as', Fr B0 H0 as0 B1 B' H' as' ∧ Ok K B' H' as' S' ∧ EnvR K B' as' σ' env' ∧ Inv i env' S', ⟨_, rfl, Nat.zero_le _, env, S1, B1, as, ⟨Evl.Ex.refl _, f1.base, f1.evo, f1.loc⟩, c1, g0.mono e1.ex, h0⟩, ?_⟩
    rintro i mm σ' H' ⟨rfl, hi, env', S', B', as', f', c', g', hinv⟩
    have ex' := f'.kn
    have hg := hG i env' S' as as' hinv c1.len c'.len (by rw [f'.base, f1.base])
    by_cases hlt : i < ds.length
    · refine .inr ⟨w.go B' H' as' S' i ex' c' hg hlt, fun σ2 H2 => ∃ env2 S2 B2 as2, Fr B0 H0 as0 B1 B2 H2 as2 ∧ Ok K B2 H2 as2 S2 ∧ EnvR K B2 as2 σ2 env2 ∧ Inv (i + 1) env2 S2, fun σ2 H2 hN => ⟨ds.length - (i + 1), by omega, rfl, hlt, hN⟩, fun x H2 hy => ?_⟩
      obtain ⟨B2, d, c2, e2, hd2, r2⟩ := w.yld B' H' as' S' i x H2 ex' c' hg hlt hy
      obtain ⟨is, f, tg, hbody⟩ := hs i d env' S' hd2 hinv
      refine tg B2 H2 as' S' σ' env' x c2 (g'.mono e2.ex) r2 _ fun σ3 g3 _ => ?_
      have f2 := f'.step e2
      refine hbody B0 H0 as0 B1 B2 H2 as' σ3 rfl f2 c2 g3 _ ⟨?_, m.rt, ?_, ?_, m.ok⟩
      · exact fun env4 S4 B4 H4 as4 σ4 f4 c4 g4 p4 => ⟨env4, S4, B4, as4, f4, c4, g4, p4⟩
      · exact fun env4 S4 B4 H4 as4 σ4 f4 c4 g4 p4 => m.nx env4 S4 B4 H4 as4 σ4 ⟨f1.kn.trans f4.kn, f4.base, f4.evo, f4.loc⟩ c4 g4 p4
      · exact fun env4 S4 B4 H4 as4 σ4 f4 c4 g4 p4 => ⟨env4, S4, B4, as4, f4, c4, g4, p4⟩
    · have e : i = ds.length := by omega
      subst e
      exact .inl ⟨w.stop B' H' as' S' ex' c' hg, m.nx env' S' B' H' as' σ' ⟨f1.kn.trans f'.kn, f'.base, f'.evo, f'.loc⟩ c' g' (hd env' S' hinv)⟩
end
end RW

set_option Elab.async false
set_option linter.all false
set_option maxRecDepth 100000
set_option maxHeartbeats 4000000
namespace RW
open PySem PySem.Spec PyProof.Rows L2
open Evl (Ex)
section
variable {K : PySem.W.Frag} {n : Nat} {te ta tb tc to ti : TE} {tt tu : TT} {tA tR : TA} {env env' : Env1} {S S1 S2 S3 : List Dat} {x y z : Sl} {d e : Dat} {ds es : List Dat} {r r' : R2} {P P' : Post} {t u : TS}
  {B B0 B1 B' H H0 H1 H' : Hp} {as as0 as1 : List Addr} {D : Ends} {σ : L2.St} {i : Nat} {a b c : Bool}
/-- a list that nothing knows, and what it holds -/
structure Acc (K : PySem.W.Frag) (p : Addr) (B H : Hp) (as : List Addr) (acc : List Dat) : Prop where
  nb : B p = none
  na : p ∉ as
  at_ : ∃ vs, H p = some (.lst vs) ∧ Reps K B vs acc
theorem Acc.step {p : Addr} {acc : List Dat} (h : Acc K p B H as acc) (e : Evo B H as B1 H1) : Acc K p B1 H1 as acc := by
  obtain ⟨vs, h1, h2⟩ := h.at_
  have h3 := e.fr p _ h.na h1 (fun _ z => nomatch z)
  refine ⟨?_, h.na, vs, h3, h2.mono e.ex⟩
  rcases e.gr p _ h1 (fun _ z => nomatch z) with z | ⟨o, fo, z⟩
  · exact z.trans h.nb
  · rw [h3] at z; cases z; exact fo.lst.elim
/-- a list that nothing knows may change -/
theorem Ok.other {p : Addr} {o : HO} (c : Ok K B H as S) (hb : B p = none) (ha : p ∉ as) : Ok K B (upd H p o) as S where
  ex := fun a u q => by
    rw [upd_ne (by rintro rfl; rw [hb] at q; cases q)]
    exact c.ex a u q
  len := c.len
  cells := fun k a s h1 h2 => by
    obtain ⟨q1, q2⟩ := c.cells k a s h1 h2
    have ne : a ≠ p := by rintro rfl; exact ha (List.mem_of_getElem? h1)
    refine ⟨q1, ?_⟩
    obtain ⟨o, q3, q4⟩ := q2
    exact ⟨o, by rw [upd_ne ne]; exact q3, q4⟩
  nd := c.nd
  ntb := c.ntb
  tb := c.tb
  lk := fun k a s o h1 h2 h3 => by
    have ne : a ≠ p := by rintro rfl; exact ha (List.mem_of_getElem? h1)
    rw [upd_ne ne] at h3
    exact c.lk k a s o h1 h2 h3
theorem Evo.other {p : Addr} {o : HO} (e : Evo B H as B1 H1) (hp : Nn H p) (hn : ∀ ps, o ≠ .tbl ps := by exact fun _ z => nomatch z) : Evo B H as B1 (upd H1 p o) :=
  ⟨e.ex, fun a u n q nt => by rw [upd_ne (by rintro rfl; exact hp.no q nt)]; exact e.fr a u n q nt, fun a u q nt => by rw [upd_ne (by rintro rfl; exact hp.no q nt)]; exact e.gr a u q nt, fun a u fo q => by
    rw [upd_ne (by rintro rfl; obtain ⟨ps, rfl⟩ := hp u q; exact fo.tbl)]; exact e.tp a u fo q, fun a u q nt => by rw [upd_ne (by rintro rfl; exact hp.no q nt)]; exact e.pr a u q nt⟩
theorem Acc.snoc {p : Addr} {acc : List Dat} {v : V} (h : Acc K p B H as acc) (r : Rep K B v d) : ∃ vs, H p = some (.lst vs) ∧ vs.length = acc.length ∧ Acc K p B (upd H p (.lst (vs ++ [v]))) as (acc ++ [d]) := by
  obtain ⟨vs, h1, h2⟩ := h.at_
  exact ⟨vs, h1, h2.length, h.nb, h.na, _, upd_same, h2.append (.cons r .nil)⟩
/-- [e for target in iter if test] -/
theorem en_lc {wi : TI} {g : TG} {vs : List Nat} {G : List Addr → List Addr → List Dat → Prop} (hw : IterD K wi env S G ds S1) (hz : ds.length ≤ sizeLine) (Inv : Nat → List Dat → List Dat → Prop) (h0 : Inv 0 [] S1)
    (hG : ∀ i acc S', Inv i acc S' → ∀ as : List Addr, as.length = S1.length → as.length = S'.length → G as as S')
    (hs : ∀ i d acc S', ds[i]? = some d → Inv i acc S' → ∃ is f b S2, TgD K g d is f ∧ (∀ i ∈ is, i ∈ vs) ∧ EvT K tt (f (wipeE env vs)) S' b S2 ∧
      (b = true → ∃ r S3, Ev K te (f (wipeE env vs)) S2 (.d r) S3 ∧ Inv (i + 1) (acc ++ [r]) S3) ∧ (b = false → Inv (i + 1) acc S2))
    {S' : List Dat} (hd : ∀ acc S2, Inv ds.length acc S2 → acc = es ∧ S2 = S') : EvN K (tLc wi g tt te vs) env S es S' := fun B H as σ c g0 Q q =>
  hw B H as σ c g0 _ fun J B1 H1 c1 e1 w Dl hDl => by
    have hD0 : Nn H Dl := e1.old hDl
    have c1' : Ok K B1 (upd H1 Dl (.lst [])) as S1 := c1.other (c1.Bnone hDl) (c1.fresh hDl)
    have e1' : Evo B H as B1 (upd H1 Dl (.lst [])) := e1.other hD0
    refine ⟨fun i mm H' => mm = ds.length - i ∧ i ≤ ds.length ∧ ∃ S' B' acc, Ok K B' H' as S' ∧ Evo B H as B' H' ∧ Ex B1 B' ∧ Acc K Dl B' H' as acc ∧ acc.length ≤ i ∧ Inv i acc S', ⟨_, rfl, Nat.zero_le _, S1, B1, [], c1', e1', Evl.Ex.refl _, ⟨c1.Bnone hDl, c1.fresh hDl, [], upd_same, .nil⟩, Nat.zero_le _, h0⟩, ?_⟩
    rintro i mm H' ⟨rfl, hi, S', B', acc, c', e', ex', hacc, hal, hinv⟩
    have hg := hG i acc S' hinv as c1.len c'.len
    by_cases hlt : i < ds.length
    · refine .inr ⟨w.go B' H' as S' i ex' c' hg hlt, fun H2 => ∃ S2 B2 acc2, Ok K B2 H2 as S2 ∧ Evo B H as B2 H2 ∧ Ex B1 B2 ∧ Acc K Dl B2 H2 as acc2 ∧ acc2.length ≤ i + 1 ∧ Inv (i + 1) acc2 S2, fun H2 hN => ⟨ds.length - (i + 1), by omega, rfl, hlt, hN⟩, fun x H2 hy => ?_⟩
      obtain ⟨B2, d, c2, e2, hd2, r2⟩ := w.yld B' H' as S' i x H2 ex' c' hg hlt hy
      obtain ⟨is, f, b, S2, tg, his, htt, ht, hf⟩ := hs i d acc S' hd2 hinv
      have gw : EnvR K B2 as (L2.wipe σ vs) (wipeE env vs) := ((g0.mono e1.ex).wipe vs).mono (ex'.trans e2.ex)
      refine tg B2 H2 as S' _ _ x c2 gw r2 _ fun σ3 g3 hw3 => ⟨?_, ?_⟩
      · rw [hw3 vs his]
        have : ∀ ws : List Nat, (∀ j ∈ ws, j ∈ vs) → L2.wipe (L2.wipe σ vs) ws = L2.wipe σ vs := by
          intro ws
          induction ws with
          | nil => intro _; rfl
          | cons j ws ih =>
            intro h
            show (L2.wipe (L2.wipe σ vs) ws).set j none = L2.wipe σ vs
            have e0 : L2.wipe (L2.wipe σ vs) ws = L2.wipe σ vs := ih fun k hk => h k (List.mem_cons_of_mem _ hk)
            rw [e0]
            have hj := h j List.mem_cons_self
            have key : ∀ (us : List Nat), j ∈ us → (L2.wipe σ us).set j none = L2.wipe σ us := by
              intro us
              induction us with
              | nil => intro h; cases h
              | cons k us ih =>
                intro hk
                unfold L2.wipe
                by_cases hj : j = k
                · subst hj; rw [List.set_set]
                · rw [List.set_comm _ _ (fun z => hj z.symm)]
                  rw [ih ((List.mem_cons.mp hk).resolve_left hj)]
            exact key vs hj
        exact this vs fun _ h => h
      · refine htt B2 H2 as σ3 c2 g3 _ fun B3 H3 c3 e3 => ?_
        have ac3 := (hacc.step e2).step e3
        have e03 := (e'.trans e2).trans e3
        have ex3 := (ex'.trans e2.ex).trans e3.ex
        cases b with
        | false => exact ⟨S2, B3, acc, c3, e03, ex3, ac3, by omega, hf rfl⟩
        | true =>
          obtain ⟨r, S3, hev, hinv'⟩ := ht rfl
          show te σ3 H3 _
          refine hev B3 H3 as σ3 c3 (g3.mono e3.ex) _ fun v B4 H4 c4 e4 r4 => ?_
          have ac4 := ac3.step e4
          obtain ⟨ws, hw4, hl4, ac5⟩ := ac4.snoc r4
          refine ⟨ws, hw4, by rw [hl4]; omega, S3, B4, acc ++ [r], c4.other ac4.nb ac4.na, (e03.trans e4).other hD0, ex3.trans e4.ex, ac5, by rw [List.length_append]; simp; omega, hinv'⟩
    · have e : i = ds.length := by omega
      subst e
      obtain ⟨e1, e2⟩ := hd acc S' hinv
      subst e1 e2
      obtain ⟨ws, hw4, hr4⟩ := hacc.at_
      exact .inl ⟨w.stop B' H' as S' ex' c' hg, q Dl B' H' ws c' e' ⟨hacc.na, hD0⟩ hacc.nb hw4 hr4⟩
/-- without a test, each element by itself -/
theorem en_map {wi : TI} {g : TG} {vs : List Nat} {G : List Addr → List Addr → List Dat → Prop} {is : List Nat} (hw : IterD K wi env S G ds S1) (hz : ds.length ≤ sizeLine)
    (hG : ∀ as : List Addr, as.length = S1.length → G as as S1) (his : ∀ i ∈ is, i ∈ vs) (f : Dat → Env1 → Env1) (F : Dat → Dat)
    (hs : ∀ (i : Nat) (d : Dat), ds[i]? = some d → TgD K g d is (f d) ∧ Ev K te (f d (wipeE env vs)) S1 (.d (F d)) S1) : EvN K (tLc wi g tYes te vs) env S (ds.map F) S1 := by
  refine en_lc (es := ds.map F) (S' := S1) hw hz (fun i acc S' => acc = (ds.take i).map F ∧ S' = S1) ⟨by simp, rfl⟩ (fun i acc S' h as l1 l2 => by rw [h.2]; exact hG as l1) (fun i d acc S' hd h => ?_) (fun acc S2 h => ?_)
  · obtain ⟨rfl, rfl⟩ := h
    obtain ⟨tg, hev⟩ := hs i d hd
    refine ⟨is, f d, true, S', tg, his, et_yes, fun _ => ⟨_, _, hev, ?_, rfl⟩, fun h => by cases h⟩
    have hl := (List.getElem?_eq_some_iff.mp hd).1
    have e : ds[i] = d := (List.getElem?_eq_some_iff.mp hd).2
    rw [List.take_succ_eq_append_getElem hl, e, List.map_append]
    rfl
  · obtain ⟨rfl, rfl⟩ := h
    exact ⟨by rw [List.take_length], rfl⟩
/-- with a test -/
theorem en_filter {wi : TI} {g : TG} {vs : List Nat} {G : List Addr → List Addr → List Dat → Prop} {is : List Nat} (hw : IterD K wi env S G ds S1) (hz : ds.length ≤ sizeLine)
    (hG : ∀ as : List Addr, as.length = S1.length → G as as S1) (his : ∀ i ∈ is, i ∈ vs) (f : Dat → Env1 → Env1) (F : Dat → Dat) (T : Dat → Bool)
    (hs : ∀ (i : Nat) (d : Dat), ds[i]? = some d → TgD K g d is (f d) ∧ EvT K tt (f d (wipeE env vs)) S1 (T d) S1 ∧ (T d = true → Ev K te (f d (wipeE env vs)) S1 (.d (F d)) S1)) : EvN K (tLc wi g tt te vs) env S ((ds.filter T).map F) S1 := by
  refine en_lc (es := (ds.filter T).map F) (S' := S1) hw hz (fun i acc S' => acc = ((ds.take i).filter T).map F ∧ S' = S1) ⟨by simp, rfl⟩ (fun i acc S' h as l1 l2 => by rw [h.2]; exact hG as l1) (fun i d acc S' hd h => ?_) (fun acc S2 h => ?_)
  · obtain ⟨rfl, rfl⟩ := h
    obtain ⟨tg, htt, hev⟩ := hs i d hd
    have hl := (List.getElem?_eq_some_iff.mp hd).1
    have e : ds[i] = d := (List.getElem?_eq_some_iff.mp hd).2
    refine ⟨is, f d, T d, S', tg, his, htt, fun h => ⟨_, _, hev h, ?_, rfl⟩, fun h => ⟨?_, rfl⟩⟩
    · rw [List.take_succ_eq_append_getElem hl, e, List.filter_append, List.map_append]
      simp [h]
    · rw [List.take_succ_eq_append_getElem hl, e, List.filter_append, List.map_append]
      simp [h]
  · obtain ⟨rfl, rfl⟩ := h
    exact ⟨by rw [List.take_length], rfl⟩
end
end RW

set_option Elab.async false
set_option linter.all false
set_option maxRecDepth 100000
set_option maxHeartbeats 4000000
namespace RW
open PySem PySem.Spec PyProof.Rows L2
open Evl (Ex)
section
variable {K : PySem.W.Frag} {n : Nat} {te ta tb tc to ti : TE} {tt tu : TT} {tA tR : TA} {env env' : Env1} {S S1 S2 S3 : List Dat} {x y z : Sl} {d e : Dat} {ds es : List Dat} {r r' : R2} {P P' : Post} {t u : TS}
  {B B0 B1 B' H H0 H1 H' : Hp} {as as0 as1 : List Addr} {D : Ends} {σ : L2.St} {i : Nat} {a b c : Bool}
theorem wipe_none {j : Nat} : ∀ {us : List Nat}, j ∈ us → (L2.wipe σ us).set j none = L2.wipe σ us
  | [], h => by cases h
  | k :: us, hk => by
    show ((L2.wipe σ us).set k none).set j none = (L2.wipe σ us).set k none
    by_cases hj : j = k
    · subst hj; rw [List.set_set]
    · rw [List.set_comm _ _ (fun z => hj z.symm), wipe_none ((List.mem_cons.mp hk).resolve_left hj)]
theorem wipe_wipe {vs : List Nat} : ∀ {ws : List Nat}, (∀ j ∈ ws, j ∈ vs) → L2.wipe (L2.wipe σ vs) ws = L2.wipe σ vs
  | [], _ => rfl
  | j :: ws, h => by
    show (L2.wipe (L2.wipe σ vs) ws).set j none = L2.wipe σ vs
    rw [wipe_wipe fun k hk => h k (List.mem_cons_of_mem _ hk), wipe_none (h j List.mem_cons_self)]
theorem flat_take {α β : Type} (f : α → List β) {l : List α} {i : Nat} {x : α} (h : l[i]? = some x) : (l.take (i + 1)).flatMap f = (l.take i).flatMap f ++ f x := by
  obtain ⟨hl, e⟩ := List.getElem?_eq_some_iff.mp h
  rw [List.take_succ_eq_append_getElem hl, e, List.flatMap_append]
  simp
theorem flat_le {α β : Type} (f : α → List β) {l : List α} {i : Nat} {x : α} (h : l[i]? = some x) : ((l.take i).flatMap f).length + (f x).length ≤ (l.flatMap f).length := by
  have h1 : (l.take (i + 1)).flatMap f ++ (l.drop (i + 1)).flatMap f = l.flatMap f := by
    rw [← List.flatMap_append, List.take_append_drop]
  rw [← h1, flat_take f h, List.length_append, List.length_append]
  omega
theorem map_take {α β : Type} (f : α → β) {l : List α} {i : Nat} {x : α} (h : l[i]? = some x) : (l.take (i + 1)).map f = (l.take i).map f ++ [f x] := by
  obtain ⟨hl, e⟩ := List.getElem?_eq_some_iff.mp h
  rw [List.take_succ_eq_append_getElem hl, e, List.map_append]
  rfl
/-- [e for x in xs for y in ..] -/
theorem en_flat {wi wi1 : TI} {g g1 : TG} {vs vs1 : List Nat} {G G1 : List Addr → List Addr → List Dat → Prop} {is is1 : List Nat} (hw : IterD K wi env S G ds S1) (inn : Dat → List Dat) (F : Dat → Dat → Dat)
    (hz : (ds.flatMap fun d => (inn d).map (F d)).length ≤ sizeLine) (hG : ∀ as : List Addr, as.length = S1.length → G as as S1) (hG1 : ∀ as : List Addr, as.length = S1.length → G1 as as S1)
    (his : ∀ i ∈ is, i ∈ vs) (his1 : ∀ i ∈ is1, i ∈ vs1) (hv1 : ∀ i ∈ vs1, i ∈ vs) (f : Dat → Env1 → Env1) (f1 : Dat → Dat → Env1 → Env1)
    (hs : ∀ (i : Nat) (d : Dat), ds[i]? = some d → TgD K g d is (f d) ∧ IterD K wi1 (f d (wipeE env vs)) S1 G1 (inn d) S1 ∧ ∀ (j : Nat) (e : Dat), (inn d)[j]? = some e →
      TgD K g1 e is1 (f1 d e) ∧ Ev K te (f1 d e (wipeE (f d (wipeE env vs)) vs1)) S1 (.d (F d e)) S1) :
    EvN K (tLc2 wi g tYes wi1 g1 tYes te vs vs1) env S (ds.flatMap fun d => (inn d).map (F d)) S1 := fun B H as σ c g0 Q q =>
  hw B H as σ c g0 _ fun J B1 H1 c1 e1 w Dl hDl => by
    have hD0 : Nn H Dl := e1.old hDl
    have c1' : Ok K B1 (upd H1 Dl (.lst [])) as S1 := c1.other (c1.Bnone hDl) (c1.fresh hDl)
    have e1' : Evo B H as B1 (upd H1 Dl (.lst [])) := e1.other hD0
    have hg := hG as c1.len
    have hg1 := hG1 as c1.len
    refine ⟨fun i mm H' => mm = ds.length - i ∧ i ≤ ds.length ∧ ∃ B', Ok K B' H' as S1 ∧ Evo B H as B' H' ∧ Ex B1 B' ∧ Acc K Dl B' H' as ((ds.take i).flatMap fun d => (inn d).map (F d)), ⟨_, rfl, Nat.zero_le _, B1, c1', e1', Evl.Ex.refl _, ⟨c1.Bnone hDl, c1.fresh hDl, [], upd_same, .nil⟩⟩, ?_⟩
    rintro i mm H' ⟨rfl, hi, B', c', e', ex', hacc⟩
    by_cases hlt : i < ds.length
    · refine .inr ⟨w.go B' H' as S1 i ex' c' hg hlt, fun H2 => ∃ B2, Ok K B2 H2 as S1 ∧ Evo B H as B2 H2 ∧ Ex B1 B2 ∧ Acc K Dl B2 H2 as ((ds.take (i + 1)).flatMap fun d => (inn d).map (F d)), fun H2 hN => ⟨ds.length - (i + 1), by omega, rfl, hlt, hN⟩, fun x H2 hy => ?_⟩
      obtain ⟨B2, d, c2, e2, hd2, r2⟩ := w.yld B' H' as S1 i x H2 ex' c' hg hlt hy
      obtain ⟨tg, hw1, hin⟩ := hs i d hd2
      have gw : EnvR K B2 as (L2.wipe σ vs) (wipeE env vs) := ((g0.mono e1.ex).wipe vs).mono (ex'.trans e2.ex)
      refine tg B2 H2 as S1 _ _ x c2 gw r2 _ fun σ3 g3 hw3 => ⟨?_, ?_⟩
      · rw [hw3 vs his, wipe_wipe fun _ h => h]
      · show wi1 σ3 H2 _
        refine hw1 B2 H2 as σ3 c2 g3 _ fun J1 B3 H3 c3 e3 w1 => ?_
        have ac3 := (hacc.step e2).step e3
        have e03 := (e'.trans e2).trans e3
        have ex3 := (ex'.trans e2.ex).trans e3.ex
        refine ⟨fun j kk H5 => kk = (inn d).length - j ∧ j ≤ (inn d).length ∧ ∃ B5, Ok K B5 H5 as S1 ∧ Evo B H as B5 H5 ∧ Ex B3 B5 ∧ Acc K Dl B5 H5 as (((ds.take i).flatMap fun d => (inn d).map (F d)) ++ ((inn d).take j).map (F d)),
          ⟨_, rfl, Nat.zero_le _, B3, c3, e03, Evl.Ex.refl _, by simpa using ac3⟩, ?_⟩
        rintro j kk H5 ⟨rfl, hj, B5, c5, e5, ex5, ac5⟩
        by_cases hlj : j < (inn d).length
        · refine .inr ⟨w1.go B5 H5 as S1 j ex5 c5 hg1 hlj, fun H6 => ∃ B6, Ok K B6 H6 as S1 ∧ Evo B H as B6 H6 ∧ Ex B3 B6 ∧ Acc K Dl B6 H6 as (((ds.take i).flatMap fun d => (inn d).map (F d)) ++ ((inn d).take (j + 1)).map (F d)), fun H6 hN => ⟨(inn d).length - (j + 1), by omega, rfl, hlj, hN⟩, fun x6 H6 hy6 => ?_⟩
          obtain ⟨B6, e6, c6, ev6, he6, r6⟩ := w1.yld B5 H5 as S1 j x6 H6 ex5 c5 hg1 hlj hy6
          obtain ⟨tg1, hev⟩ := hin j e6 he6
          have gw1 : EnvR K B6 as (L2.wipe σ3 vs1) (wipeE (f d (wipeE env vs)) vs1) := (((g3.mono e3.ex).mono ex5).wipe vs1).mono ev6.ex
          refine tg1 B6 H6 as S1 _ _ x6 c6 gw1 r6 _ fun σ7 g7 hw7 => ⟨?_, ?_⟩
          · rw [hw7 vs1 his1, wipe_wipe fun _ h => h]
          · show te σ7 H6 _
            refine hev B6 H6 as σ7 c6 g7 _ fun v B7 H7 c7 e7 r7 => ?_
            have ac7 := (ac5.step ev6).step e7
            obtain ⟨ws, hw8, hl8, ac8⟩ := ac7.snoc r7
            refine ⟨ws, hw8, ?_, B7, c7.other ac7.nb ac7.na, ((e5.trans ev6).trans e7).other hD0, (ex5.trans ev6.ex).trans e7.ex, ?_⟩
            · have hb := flat_le (fun d => (inn d).map (F d)) hd2
              rw [hl8, List.length_append, List.length_map, List.length_take]
              rw [List.length_map] at hb
              omega
            · rw [map_take (F d) he6, ← List.append_assoc]
              exact ac8
        · have ej : j = (inn d).length := by omega
          subst ej
          refine .inl ⟨w1.stop B5 H5 as S1 ex5 c5 hg1, B5, c5, e5, ex3.trans ex5, ?_⟩
          rw [flat_take (fun d => (inn d).map (F d)) hd2]
          rw [List.take_length] at ac5
          exact ac5
    · have e : i = ds.length := by omega
      subst e
      rw [List.take_length] at hacc
      obtain ⟨ws, hw4, hr4⟩ := hacc.at_
      exact .inl ⟨w.stop B' H' as S1 ex' c' hg, q Dl B' H' ws c' e' ⟨hacc.na, hD0⟩ hacc.nb hw4 hr4⟩
end
end RW

set_option Elab.async false
set_option linter.all false
set_option maxRecDepth 100000
set_option maxHeartbeats 4000000
namespace RW
open PySem PySem.Spec PyProof.Rows L2
open Evl (Ex)
section
variable {K : PySem.W.Frag} {n : Nat} {te ta tb tc to ti tv : TE} {tt tu : TT} {tA tR : TA} {env env' : Env1} {S S1 S2 S3 : List Dat} {x y z : Sl} {d e : Dat} {ds es : List Dat} {r r' : R2} {P P' : Post} {t u : TS}
  {B B0 B1 B' H H0 H1 H' : Hp} {as as0 as1 : List Addr} {D : Ends} {σ : L2.St} {i k : Nat} {a b c : Bool}
/-! ### what is changed -/
theorem Ok.setc {p : Addr} {o : HO} {s : Dat} (c : Ok K B H as S) (hk : as[k]? = some p) (r : CellO K B o s) (l : LkO as k o s := by exact fun _ _ _ _ h => nomatch h) (ht : ∀ P q, s = .tab P q → p = P := by exact fun _ _ h => nomatch h) : Ok K B (upd H p o) as (S.set k s) where
  ex := fun a u q => by
    have hl : k < S.length := by rw [← c.len]; exact (List.getElem?_eq_some_iff.mp hk).1
    obtain ⟨hb, _⟩ := c.cells k p S[k] hk (List.getElem?_eq_getElem hl)
    rw [upd_ne (by rintro rfl; rw [hb] at q; cases q)]
    exact c.ex a u q
  len := by rw [List.length_set]; exact c.len
  cells := fun j a s' h1 h2 => by
    by_cases hj : k = j
    · subst hj
      have hl : k < S.length := by rw [← c.len]; exact (List.getElem?_eq_some_iff.mp hk).1
      rw [List.getElem?_set_self hl] at h2
      cases h2
      rw [hk] at h1
      cases h1
      exact ⟨(c.cells k p S[k] hk (List.getElem?_eq_getElem hl)).1, o, upd_same, r⟩
    · rw [List.getElem?_set_ne hj] at h2
      obtain ⟨q1, o', q3, q4⟩ := c.cells j a s' h1 h2
      have ne : a ≠ p := by
        rintro rfl
        have hkl := (List.getElem?_eq_some_iff.mp hk).1
        exact hj ((List.getElem_inj (h₀ := hkl) (h₁ := (List.getElem?_eq_some_iff.mp h1).1) c.nd).mp (by rw [(List.getElem?_eq_some_iff.mp hk).2, (List.getElem?_eq_some_iff.mp h1).2]))
      exact ⟨q1, o', by rw [upd_ne ne]; exact q3, q4⟩
  nd := c.nd
  ntb := c.ntb
  tb := fun j P q h => by
    by_cases hj : k = j
    · subst hj
      have hl : k < S.length := by rw [← c.len]; exact (List.getElem?_eq_some_iff.mp hk).1
      rw [List.getElem?_set_self hl] at h
      rw [hk, ht P q (Option.some.inj h)]
    · rw [List.getElem?_set_ne hj] at h
      exact c.tb j P q h
  lk := fun j a s' o' h1 h2 h3 => by
    by_cases hj : k = j
    · subst hj
      have hl : k < S.length := by rw [← c.len]; exact (List.getElem?_eq_some_iff.mp hk).1
      rw [List.getElem?_set_self hl] at h2
      cases h2
      rw [hk] at h1
      cases h1
      rw [upd_same] at h3
      cases h3
      exact l
    · rw [List.getElem?_set_ne hj] at h2
      have ne : a ≠ p := by
        rintro rfl
        have hkl := (List.getElem?_eq_some_iff.mp hk).1
        exact hj ((List.getElem_inj (h₀ := hkl) (h₁ := (List.getElem?_eq_some_iff.mp h1).1) c.nd).mp (by rw [(List.getElem?_eq_some_iff.mp hk).2, (List.getElem?_eq_some_iff.mp h1).2]))
      rw [upd_ne ne] at h3
      exact c.lk j a s' o' h1 h2 h3
theorem Evo.setc {p : Addr} {o o1 : HO} (hk : p ∈ as) (h1 : H p = some o1) (ht : ∀ xs, o1 ≠ .tup xs) (hc : ∀ a q, o1 ≠ LamX.CodeO a q := by (intro _ _ z; unfold LamX.CodeO at z; cases z)) (hn : ∀ ps, o ≠ .tbl ps := by exact fun _ z => nomatch z) : Evo B H as B (upd H p o) :=
  ⟨Evl.Ex.refl B, fun a u n q _ => by rw [upd_ne (by rintro rfl; exact n hk)]; exact q, fun _ _ _ _ => .inl rfl, fun a xs fo q => by rw [upd_ne (by rintro rfl; rw [h1] at q; cases q; exact fo.elim (fun ⟨ys, z⟩ => ht ys z) fun ⟨b, r, z⟩ => hc b r z)]; exact q, fun a u q nt => by
    by_cases h : a = p
    · subst h; exact ⟨o, upd_same, hn⟩
    · exact ⟨u, by rw [upd_ne h]; exact q, nt⟩⟩
/-- xs.append(e) -/
theorem ev_append (ho : Ev K to env S (.c k) S1) (h : Ev K te env S1 (.d d) S2) (h1 : ∃ es, S1[k]? = some (.lst es)) (hs : S2[k]? = some (.lst ds)) (hl : ds.length < sizeLine) : Ev K (tBM K "list" rAppend to (tCons te tNil)) env S (.d .non) (S2.set k (.lst (ds ++ [d]))) := fun B H as σ c g Q q =>
  ho B H as σ c g _ fun v B1 H1 c1 e1 r1 => by
    obtain ⟨p, hp, rfl⟩ := r1
    obtain ⟨es, hes⟩ := h1
    obtain ⟨ws, hw, rw'⟩ := (c1.cells k p _ hp hes).2.lst
    refine ⟨.inl ⟨rfl, ws, Evl.sq_of hw⟩, h B1 H1 as σ c1 (g.mono e1.ex) _ fun v B2 H2 c2 e2 r2 => ?_⟩
    obtain ⟨vs, hv, rv⟩ := (c2.cells k p _ hp hs).2.lst
    refine ⟨p, vs, v, rfl, rfl, hv, by rw [rv.length]; exact hl, q .non B2 _ (c2.setc hp (show CellO K B2 (.lst _) (.lst _) from rv.append (.cons r2 .nil))) ((e1.trans e2).trans (Evo.setc (List.mem_of_getElem? hp) hv (fun _ z => nomatch z))) .non⟩
/-- xs.extend(ys) -/
theorem ev_extend (ho : Ev K to env S (.c k) S1) (h : Ev K te env S1 (.d (.lst es)) S2) (h1 : ∃ es, S1[k]? = some (.lst es)) (hs : S2[k]? = some (.lst ds)) (hl : ds.length + es.length ≤ sizeLine) : Ev K (tBM K "list" rExtend to (tCons te tNil)) env S (.d .non) (S2.set k (.lst (ds ++ es))) := fun B H as σ c g Q q =>
  ho B H as σ c g _ fun v B1 H1 c1 e1 r1 => by
    obtain ⟨p, hp, rfl⟩ := r1
    obtain ⟨es', hes⟩ := h1
    obtain ⟨ws, hw, rw'⟩ := (c1.cells k p _ hp hes).2.lst
    refine ⟨.inl ⟨rfl, ws, Evl.sq_of hw⟩, h B1 H1 as σ c1 (g.mono e1.ex) _ fun v B2 H2 c2 e2 r2 => ?_⟩
    obtain ⟨vs, hv, rv⟩ := (c2.cells k p _ hp hs).2.lst
    cases r2 with
    | lst h3 r3 =>
      refine ⟨p, _, vs, _, rfl, rfl, hv, c2.ex _ _ h3, by rw [rv.length, r3.length]; exact hl, q .non B2 _ (c2.setc hp (show CellO K B2 (.lst _) (.lst _) from rv.append r3)) ((e1.trans e2).trans (Evo.setc (List.mem_of_getElem? hp) hv (fun _ z => nomatch z))) .non⟩
/-- xs[i] = e -/
theorem sp_setitem {j : Nat} {iv : Int} (h : Ev K te env S (.d d) S1) (ho : Ev K to env S1 (.c k) S2) (hi : Ev K ti env S2 (.d (.int iv)) S3) (hs : S3[k]? = some (.lst ds)) (hj : ixN ds.length iv = some j) (q : SP K n u env (S3.set k (.lst (ds.set j d))) P) :
    SP K n (tSeq (tAsg te (gSub to ti rSetL)) u) env S P := fun B0 H0 as0 Bk B H as σ hl f c g D m =>
  h B H as σ c g _ fun v B1 H1 c1 e1 r1 => ho B1 H1 as σ c1 (g.mono e1.ex) _ fun w B2 H2 c2 e2 r2 => hi B2 H2 as σ c2 (g.mono (e1.trans e2).ex) _ fun w3 B3 H3 c3 e3 r3 => by
    obtain ⟨p, hp, rfl⟩ := r2
    cases r3
    obtain ⟨vs, hv, rv⟩ := (c3.cells k p _ hp hs).2.lst
    have e03 := ((e1.trans e2).trans e3).trans (Evo.setc (o := .lst (vs.set j v)) (List.mem_of_getElem? hp) hv (fun _ z => nomatch z))
    exact ⟨p, vs, iv, j, rfl, rfl, hv, by rw [rv.length]; exact hj, q B0 H0 as0 Bk B3 _ as σ hl (f.step e03) (c3.setc hp (show CellO K B3 (.lst _) (.lst _) from Reps.set j (Rep.mono (e2.trans e3).ex r1) rv)) (g.mono e03.ex) D m⟩
/-- x op= e -/
theorem sp_aug {fn : Int → Int → Int} {p q : Int} (hx : env[i]? = some (some (.d (.int p)))) (h : Ev K te env S (.d (.int q)) S1) (k : SP K n u (env.set i (some (.d (.int (fn p q))))) S1 P) : SP K n (tSeq (tAug i te (ipI fn)) u) env S P := fun B0 H0 as0 Bk B H as σ hl f c g D m => by
  obtain ⟨v, h1, h2⟩ := g.2 i _ hx
  cases h2
  exact ⟨_, h1, h B H as σ c g _ fun w B1 H1 c1 e1 r1 => by
    cases r1
    exact ⟨p, q, rfl, rfl, k B0 H0 as0 Bk B1 H1 as _ hl (f.step e1) c1 (EnvR.set (s := .d (.int (fn p q))) i (g.mono e1.ex) (.int _)) D m⟩⟩
theorem sp_aug1 {fn : Int → Int → Int} {p q : Int} (hx : env[i]? = some (some (.d (.int p)))) (h : Ev K te env S (.d (.int q)) S1) (k : P.nx (env.set i (some (.d (.int (fn p q))))) S1) : SP K n (tAug i te (ipI fn)) env S P := fun B0 H0 as0 Bk B H as σ hl f c g D m => by
  obtain ⟨v, h1, h2⟩ := g.2 i _ hx
  cases h2
  exact ⟨_, h1, h B H as σ c g _ fun w B1 H1 c1 e1 r1 => by
    cases r1
    exact ⟨p, q, rfl, rfl, m.nx _ S1 B1 H1 as _ (f.step e1) c1 (EnvR.set (s := .d (.int (fn p q))) i (g.mono e1.ex) (.int _)) k⟩⟩
/-- a, b = e1, e2 -/
theorem sp_par {i j : Nat} (h : EvA K tA env S [x, y] S1) (k : SP K n u ((env.set i (some x)).set j (some y)) S1 P) : SP K n (tSeq (tPar i j tA) u) env S P := fun B0 H0 as0 Bk B H as σ hl f c g D m =>
  h B H as σ c g _ fun vs B1 H1 c1 e1 r1 => by
    cases r1 with
    | cons r1 rr =>
      cases rr with
      | cons r2 rr =>
        cases rr
        exact ⟨_, _, rfl, k B0 H0 as0 Bk B1 H1 as _ hl (f.step e1) c1 (((g.mono e1.ex).set i r1).set j r2) D m⟩
/-! ### instances -/
def putFD (f : Str) (v : Dat) : List (Str × Dat) → List (Str × Dat)
  | [] => [(f, v)]
  | (g, x) :: r => if g = f then (g, v) :: r else (g, x) :: putFD f v r
theorem RepF.put {f : Str} {v : V} : ∀ {vs : List (Str × V)} {fs : List (Str × Dat)}, Rep K B v d → RepF K B vs fs → RepF K B (putF f v vs) (putFD f d fs)
  | _, _, h, .nil => .cons h .nil
  | _, _, h, .cons (f := g) h1 r => by
    unfold putF putFD
    split
    · exact .cons h r
    · exact .cons h1 (RepF.put h r)
  | _, _, h, .cel (f := g) r => by
    unfold putF putFD
    split
    · exact .cons h r
    · exact .cel (RepF.put h r)
theorem RepF.length : ∀ {vs : List (Str × V)} {fs : List (Str × Dat)}, RepF K B vs fs → vs.length = fs.length
  | _, _, .nil => rfl
  | _, _, .cons _ r => by rw [List.length_cons, List.length_cons, RepF.length r]
  | _, _, .cel r => by rw [List.length_cons, List.length_cons, RepF.length r]
theorem putFD_look {f f' : Str} {v : Dat} : ∀ {fs : List (Str × Dat)}, (putFD f v fs).lookup f' = if f' = f then some v else fs.lookup f'
  | [] => by
    unfold putFD
    by_cases h : f' = f
    · subst h; rw [if_pos rfl]; simp [List.lookup]
    · have q : (f' == f) = false := by simpa using h
      rw [if_neg h]; simp only [List.lookup, q]
  | (g, x) :: r => by
    unfold putFD
    by_cases hg : g = f
    · subst hg
      rw [if_pos rfl]
      by_cases h : f' = g
      · subst h; rw [if_pos rfl]; simp [List.lookup]
      · have q : (f' == g) = false := by simpa using h
        rw [if_neg h]; simp only [List.lookup, q]
    · rw [if_neg hg]
      by_cases h : f' = g
      · subst h; rw [if_neg hg]; simp [List.lookup]
      · have q : (f' == g) = false := by simpa using h
        simp only [List.lookup, q]
        exact putFD_look
theorem putF_look {f f' : Str} {v : V} : ∀ {fs : List (Str × V)}, (putF f v fs).lookup f' = if f' = f then some v else fs.lookup f'
  | [] => by
    unfold putF
    by_cases h : f' = f
    · subst h; rw [if_pos rfl]; simp [List.lookup]
    · have q : (f' == f) = false := by simpa using h
      rw [if_neg h]; simp only [List.lookup, q]
  | (g, x) :: r => by
    unfold putF
    by_cases hg : g = f
    · subst hg
      rw [if_pos rfl]
      by_cases h : f' = g
      · subst h; rw [if_pos rfl]; simp [List.lookup]
      · have q : (f' == g) = false := by simpa using h
        rw [if_neg h]; simp only [List.lookup, q]
    · rw [if_neg hg]
      by_cases h : f' = g
      · subst h; rw [if_neg hg]; simp [List.lookup]
      · have q : (f' == g) = false := by simpa using h
        simp only [List.lookup, q]
        exact putF_look
theorem Ok.lkput {p C dx : Addr} {f : Str} {v : V} {vs : List (Str × V)} {fs : List (Str × Dat)} (c : Ok K B H as S) (hp : as[k]? = some p) (hs : S[k]? = some (.ins C fs)) (hv : H p = some (.ins C dx vs)) (r : Rep K B v d) : LkO as k (.ins C dx (putF f v vs)) (.ins C (putFD f d fs)) := fun C' fs' f' j e h1 h2 => by
  cases e
  rw [putFD_look] at h1
  by_cases h : f' = f
  · rw [if_pos h] at h1; cases h1; cases r
  · rw [if_neg h] at h1
    obtain ⟨b, dx', vs', q1, q2, q3⟩ := c.lk k p _ _ hp hs hv C fs f' j rfl h1 h2
    cases q2
    exact ⟨b, dx, _, q1, rfl, by rw [putF_look, if_neg h]; exact q3⟩
theorem ev_fld {C : Addr} {fs : List (Str × Dat)} {f : Str} (h : Ev K ta env S (.d (.ins C fs)) S1) (cl : Cls K C) (na : NoAttr K C f) (hf : fs.lookup f = some d) (hd : ∀ j, d ≠ .cel j := by exact fun _ z => nomatch z) : Ev K (tFld K ta f) env S (.d d) S1 := fun B H as σ c g Q q =>
  h B H as σ c g _ fun v B1 H1 c1 e1 r1 => by
    cases r1 with
    | ins h1 r1 =>
      obtain ⟨v, hv, rv⟩ := r1.get hf hd
      exact ⟨_, C, _, _, v, rfl, c1.ex _ _ h1, cl, na, hv, q v B1 H1 c1 e1 rv⟩
theorem ev_fldC {C : Addr} {fs : List (Str × Dat)} {f : Str} (h : Ev K ta env S (.c k) S1) (hs : S1[k]? = some (.ins C fs)) (cl : Cls K C) (na : NoAttr K C f) (hf : fs.lookup f = some d) (hd : ∀ j, d ≠ .cel j := by exact fun _ z => nomatch z) : Ev K (tFld K ta f) env S (.d d) S1 := fun B H as σ c g Q q =>
  h B H as σ c g _ fun v B1 H1 c1 e1 r1 => by
    obtain ⟨p, hp, rfl⟩ := r1
    obtain ⟨dx, vs, hv, rv⟩ := (c1.cells k p _ hp hs).2.ins
    obtain ⟨v, hv', rv'⟩ := rv.get hf hd
    exact ⟨p, C, dx, vs, v, rfl, hv, cl, na, hv', q v B1 H1 c1 e1 rv'⟩
/-- self.f = e -/
theorem sp_fld {C : Addr} {fs : List (Str × Dat)} {f : Str} (h : Ev K tv env S (.d d) S1) (ho : Ev K ta env S1 (.c k) S2) (hs : S2[k]? = some (.ins C fs)) (cl : Cls K C) (na : NoAttr K C f) (hl : fs.length < 1000) (q : SP K n u env (S2.set k (.ins C (putFD f d fs))) P) :
    SP K n (tSeq (sFld K ta tv f) u) env S P := fun B0 H0 as0 Bk B H as σ hl0 f0 c g D m =>
  h B H as σ c g _ fun v B1 H1 c1 e1 r1 => ho B1 H1 as σ c1 (g.mono e1.ex) _ fun w B2 H2 c2 e2 r2 => by
    obtain ⟨p, hp, rfl⟩ := r2
    obtain ⟨dx, vs, hv, rv⟩ := (c2.cells k p _ hp hs).2.ins
    have e03 := (e1.trans e2).trans (Evo.setc (o := .ins C dx (putF f v vs)) (List.mem_of_getElem? hp) hv (fun _ z => nomatch z))
    exact ⟨p, C, dx, vs, rfl, hv, cl, na, by rw [rv.length]; exact hl, q B0 H0 as0 Bk B2 _ as σ hl0 (f0.step e03) (c2.setc hp (show CellO K B2 (.ins C dx _) (.ins C _) from ⟨rfl, RepF.put (Rep.mono e2.ex r1) rv⟩) (c2.lkput hp hs hv (Rep.mono e2.ex r1))) (g.mono e03.ex) D m⟩
theorem sp_fld1 {C : Addr} {fs : List (Str × Dat)} {f : Str} (h : Ev K tv env S (.d d) S1) (ho : Ev K ta env S1 (.c k) S2) (hs : S2[k]? = some (.ins C fs)) (cl : Cls K C) (na : NoAttr K C f) (hl : fs.length < 1000) (q : P.nx env (S2.set k (.ins C (putFD f d fs)))) :
    SP K n (sFld K ta tv f) env S P := fun B0 H0 as0 Bk B H as σ hl0 f0 c g D m =>
  h B H as σ c g _ fun v B1 H1 c1 e1 r1 => ho B1 H1 as σ c1 (g.mono e1.ex) _ fun w B2 H2 c2 e2 r2 => by
    obtain ⟨p, hp, rfl⟩ := r2
    obtain ⟨dx, vs, hv, rv⟩ := (c2.cells k p _ hp hs).2.ins
    have e03 := (e1.trans e2).trans (Evo.setc (o := .ins C dx (putF f v vs)) (List.mem_of_getElem? hp) hv (fun _ z => nomatch z))
    exact ⟨p, C, dx, vs, rfl, hv, cl, na, by rw [rv.length]; exact hl, m.nx _ _ B2 _ as _ (f0.step e03) (c2.setc hp (show CellO K B2 (.ins C dx _) (.ins C _) from ⟨rfl, RepF.put (Rep.mono e2.ex r1) rv⟩) (c2.lkput hp hs hv (Rep.mono e2.ex r1))) (g.mono e03.ex) q⟩
/-- C(e, ..): a new instance, filled by its __init__ -/
theorem ev_make {C : Addr} {G : List Sl → List Dat → Dat → List Dat → Prop} {ss : List Sl} {E : XK} {fs : List (Str × Dat)} (h : EvA K tA env S ss S1) (hg : G (.c S1.length :: ss) (S1 ++ [.ins C []]) .non (S2 ++ [.ins C fs])) (hl : S2.length = S1.length) :
    Ev K (tMake C (SpD K G) [] E tA) env S (.d (.ins C fs)) S2 := fun B H as σ c g Q q =>
  h B H as σ c g _ fun vs B1 H1 c1 e1 r1 x dx hx hdx hne => by
    have hB := c1.Bnone hx
    have hxa := c1.fresh hx
    have hdB := c1.Bnone hdx
    have hda := c1.fresh hdx
    have c2 : Ok K B1 (upd (upd H1 dx (.own x)) x (.ins C dx [])) as S1 := (c1.other hdB hda).other hB hxa
    have e2 : Evo B1 H1 as B1 (upd (upd H1 dx (.own x)) x (.ins C dx [])) := (Evo.refl.other (.of hdx)).other (.of hx)
    have c3 : Ok K B1 (upd (upd H1 dx (.own x)) x (.ins C dx [])) (as ++ [x]) (S1 ++ [.ins C []]) := c2.push hB hxa (CellAt.ofI upd_same .nil) (fun _ _ _ _ _ _ e q _ => by cases e; cases q)
    have r3 : RepSs K B1 (as ++ [x]) (.ref x :: (vs ++ [])) (.c S1.length :: ss) := by
      refine .cons ⟨x, by rw [← c1.len]; simp, rfl⟩ ?_
      rw [List.append_nil]
      have grow : ∀ {vs : List V} {ss : List Sl}, RepSs K B1 as vs ss → RepSs K B1 (as ++ [x]) vs ss := by
        intro vs ss h
        induction h with
        | nil => exact .nil
        | cons h _ ih => exact .cons h.grow ih
      exact grow r1
    refine ⟨B1, as ++ [x], _, _, _, _, c3, r3, hg, fun v B4 H4 c4 e4 r4 => ⟨by cases r4; rfl, ?_⟩⟩
    have hk : (as ++ [x])[as.length]? = some x := by simp
    have hs : (S2 ++ [Dat.ins C fs])[as.length]? = some (.ins C fs) := by
      rw [c1.len, ← hl]; simp
    obtain ⟨hb4, hc4⟩ := c4.cells as.length x _ hk hs
    obtain ⟨dx', ws, hw, rw'⟩ := hc4.ins
    have c5 : Ok K B4 H4 as S2 := by
      have := c4.upto as.length
      rw [List.take_left, show as.length = S2.length by rw [c1.len, hl], List.take_left] at this
      exact this
    have nd := c4.nd
    have hx4 : x ∉ as := fun hm => (List.nodup_append.mp nd).2.2 x hm x (by simp) rfl
    have x0 : Nn H x := e1.old hx
    have e5 : Evo B H as B4 H4 := by
      have e12 := e1.trans e2
      refine ⟨e12.ex.trans e4.ex, fun a o hn q nt => e4.fr a o (fun hm => (List.mem_append.mp hm).elim hn fun z => ?_) (e12.fr a o hn q nt) nt, fun a o q nt => let ⟨o1, h1, n1⟩ := e12.pr a o q nt; (e4.gr a o1 h1 n1).elim (fun z => (e12.gr a o q nt).elim (fun z2 => .inl (z.trans z2)) fun ⟨o, fo, h⟩ => .inr ⟨o, fo, e4.tp a o fo h⟩) .inr, fun a o fo h => e4.tp a o fo (e12.tp a o fo h), fun a o q nt => let ⟨o1, h1, n1⟩ := e12.pr a o q nt; e4.pr a o1 h1 n1⟩
      rw [List.mem_singleton.mp z] at q
      exact x0.no q nt
    refine q (.ref x) (upd B4 x (.ins C dx' ws)) H4 (c5.know hw hb4 hx4) ⟨e5.ex.trans (Evl.Ex.new hb4), e5.fr, fun a o q nt => by rw [upd_ne (by rintro rfl; exact x0.no q nt)]; exact e5.gr a o q nt, e5.tp, e5.pr⟩ (.ins upd_same (RepF.mono (Evl.Ex.new hb4) rw'))
end
end RW

set_option Elab.async false
set_option linter.all false
set_option maxRecDepth 100000
set_option maxHeartbeats 4000000
namespace RW
open PySem PySem.Spec PyProof.Rows L2
open Evl (Ex)
section
variable {K : PySem.W.Frag} {n : Nat} {te ta tb tc to ti tv : TE} {tt tu : TT} {tA tR : TA} {env env' : Env1} {S S1 S2 S3 : List Dat} {x y z : Sl} {d e : Dat} {ds es : List Dat} {r r' : R2} {P P' : Post} {t u : TS}
  {B B0 B1 B' H H0 H1 H' : Hp} {as as0 as1 : List Addr} {D : Ends} {σ : L2.St} {i k : Nat} {a b c : Bool}
/-! ### enumerate, reversed(range) -/
def enumD (ds : List Dat) : List Dat := ds.mapIdx fun i d => Dat.tup [.int (i : Nat), d]
theorem enumD_len : (enumD ds).length = ds.length := by unfold enumD; rw [List.length_mapIdx]
theorem enumD_get {i : Nat} {d : Dat} (h : ds[i]? = some d) : (enumD ds)[i]? = some (.tup [.int (i : Nat), d]) := by
  unfold enumD
  rw [List.getElem?_mapIdx, h]
  rfl
theorem it_enum (h : EvA K tA env S [x] S1) (hx : Seq S1 x ds) : IterD K (iEnumG K tA) env S (fun as as2 S2 => GS x ds as as2 S2) (enumD ds) S1 := fun B H as σ c g R q => h B H as σ c g _ fun vs B1 H1 c1 e1 r1 => by
  cases r1 with
  | cons r1 rr =>
    cases rr
    obtain ⟨a1, k1, rfl, ⟨w1, q1⟩, st1⟩ := seq_stays c1 hx r1
    refine ⟨a1, k1, w1, rfl, q1, q _ B1 H1 c1 e1 ⟨fun B2 H2 as2 S2 i e c2 g2 hi => ?_, fun B2 H2 as2 S2 i x H3 e c2 g2 hi y => ?_, fun B2 H2 as2 S2 e c2 g2 => ?_⟩⟩
    · obtain ⟨u1, p1, rp1⟩ := st1 B2 H2 as2 S2 e c2 g2
      rw [enumD_len] at hi
      obtain ⟨v1, hv1, _⟩ := rp1.get (List.getElem?_eq_getElem hi)
      exact ⟨u1, v1, p1, hv1⟩
    · obtain ⟨u1, p1, rp1⟩ := st1 B2 H2 as2 S2 e c2 g2
      obtain ⟨T, v1, rfl, hT, rfl, y1⟩ := y
      obtain ⟨d1, hd1, r1⟩ := rp1.get' (y1 u1 p1)
      have hB : Ex B2 (upd B2 T (.tup [.int (i : Nat), v1])) := Evl.Ex.new (c2.Bnone hT)
      exact ⟨upd B2 T (.tup [.int (i : Nat), v1]), .tup [.int (i : Nat), d1], c2.new hT, Evo.new c2 hT, enumD_get hd1, .tup (Evl.st_of upd_same) (.cons (.int _) (.cons (r1.mono hB) .nil))⟩
    · obtain ⟨u1, p1, rp1⟩ := st1 B2 H2 as2 S2 e c2 g2
      exact ⟨u1, p1, by rw [enumD_len, rp1.length]⟩
/-- hi - 1, .., lo -/
def rngR (lo : Int) (n : Nat) : List Dat := (List.range n).map fun i => Dat.int (lo + (n : Int) - 1 + (i : Nat) * (-1))
theorem rngR_len {lo : Int} {n : Nat} : (rngR lo n).length = n := by unfold rngR; rw [List.length_map, List.length_range]
theorem rngR_get {lo : Int} {n i : Nat} (h : i < n) : (rngR lo n)[i]? = some (.int (lo + (n : Int) - 1 + (i : Nat) * (-1))) := by
  unfold rngR
  rw [List.getElem?_map, List.getElem?_range h]
  rfl
theorem walk_rngR {lo : Int} {n : Nat} {G : List Addr → List Dat → Prop} : WalkD K B (Itc (lo + (n : Int) - 1) (-1) n) G (rngR lo n) where
  go := fun B2 H2 as2 S2 i _ _ _ hi => by rw [rngR_len] at hi; exact hi
  yld := fun B2 H2 as2 S2 i x H3 _ c _ hi y => by
    rw [rngR_len] at hi
    obtain ⟨rfl, rfl⟩ := y
    exact ⟨B2, _, c, Evo.refl, rngR_get hi, .int _⟩
  stop := fun B2 H2 as2 S2 _ _ _ => by rw [rngR_len]; exact Nat.le_refl _
theorem it_rev1 {j : Int} (h : Ev K ta env S (.d (.int j)) S1) (hj : -(2 ^ 62) ≤ j ∧ j < 2 ^ 62) : IterD K (iRevR (tRg1 ta)) env S G0 (rngR 0 j.toNat) S1 := fun B H as σ c g R q => h B H as σ c g _ fun v B1 H1 c1 e1 r1 => by
  cases r1
  refine ⟨j, rfl, by decide, by decide, hj.1, hj.2, ?_⟩
  have e0 : (j - 0).toNat = j.toNat := by rw [Int.sub_zero]
  rw [e0]
  exact q _ B1 H1 c1 e1 walk_rngR
/-! ### == of data -/
mutual
def py : Dat → PyData
  | .non => .none
  | .bl b => .bool b
  | .int i => .int i
  | .str s => .str s
  | .tup xs => .tuple (pyAll xs)
  | .lst xs => .list (pyAll xs)
  | .ty _ => .none
  | .scr _ => .none
  | .ins _ _ => .none
  | .adr _ => .none
  | .dic _ => .none
  | .cel _ => .none
  | .tab _ _ => .none
  | .dd => .none
def pyAll : List Dat → List PyData
  | [] => []
  | x :: xs => py x :: pyAll xs
end
inductive Pl : Nat → Dat → Prop
  | non {m : Nat} : Pl m .non
  | bl {m : Nat} (b : Bool) : Pl m (.bl b)
  | int {m : Nat} (i : Int) : Pl m (.int i)
  | str {m : Nat} {s : Str} (h : (PyData.str s).canLay0 = true) : Pl m (.str s)
  | tup {m : Nat} {ds : List Dat} (h : ∀ d ∈ ds, Pl m d) : Pl (m + 1) (.tup ds)
  | lst {m : Nat} {ds : List Dat} (h : ∀ d ∈ ds, Pl m d) : Pl (m + 1) (.lst ds)
theorem pyAll_lay {m : Nat} : ∀ {ds : List Dat}, (∀ d ∈ ds, (py d).canLay0 = true ∧ (py d).depth ≤ m) → PyData.canLayAll0 (pyAll ds) = true ∧ PyData.depthAll (pyAll ds) ≤ m
  | [], _ => ⟨rfl, Nat.zero_le _⟩
  | d :: ds, h => by
    obtain ⟨h1, h2⟩ := pyAll_lay (ds := ds) fun d hd => h d (List.mem_cons_of_mem _ hd)
    obtain ⟨h3, h4⟩ := h d List.mem_cons_self
    refine ⟨?_, ?_⟩
    · show (PyData.canLay0 (py d) && PyData.canLayAll0 (pyAll ds)) = true
      rw [h1, h3]; rfl
    · show max (PyData.depth (py d)) (PyData.depthAll (pyAll ds)) ≤ m
      omega
theorem Pl.lay {m : Nat} (h : Pl m d) : (py d).canLay0 = true ∧ (py d).depth ≤ m := by
  induction h with
  | non => exact ⟨rfl, Nat.zero_le _⟩
  | bl b => exact ⟨rfl, Nat.zero_le _⟩
  | int i => exact ⟨rfl, Nat.zero_le _⟩
  | str h => exact ⟨h, Nat.zero_le _⟩
  | tup h ih =>
    obtain ⟨h1, h2⟩ := pyAll_lay ih
    exact ⟨h1, Nat.succ_le_succ h2⟩
  | lst h ih =>
    obtain ⟨h1, h2⟩ := pyAll_lay ih
    exact ⟨h1, Nat.succ_le_succ h2⟩
theorem Pl.shaped {m : Nat} (h : Pl m d) (hm : m ≤ 64) : SeqAt.shaped (py d) = true := by
  unfold SeqAt.shaped
  rw [h.lay.1, decide_eq_true (Nat.le_trans h.lay.2 hm)]
  rfl
theorem dpAll_of {m : Nat} : ∀ {vs : List V} {ds : List Dat}, (∀ d ∈ ds, ∀ v, Rep K H v d → Dp K H v (py d)) → Reps K H vs ds → DpAll K H vs (pyAll ds)
  | _, [], _, .nil => .nil
  | _, d :: ds, h, .cons r rr => .cons (h d List.mem_cons_self _ r) (dpAll_of (m := m) (fun d hd => h d (List.mem_cons_of_mem _ hd)) rr)
theorem Pl.dp {m : Nat} (h : Pl m d) : ∀ v, Rep K H v d → Dp K H v (py d) := by
  induction h with
  | non => intro v r; cases r; exact .non
  | bl b => intro v r; cases r; exact .bl b
  | int i => intro v r; cases r; exact .int i
  | str h => intro v r; cases r; exact .str _
  | tup h ih =>
    intro v r
    cases r with
    | tup h1 r1 => exact .tup h1 (dpAll_of (m := 0) ih r1)
  | lst h ih =>
    intro v r
    cases r with
    | lst h1 r1 => exact .lst (Evl.sq_of h1) (dpAll_of (m := 0) ih r1)
/-- what an operand is, as data -/
def PlS (S : List Dat) (x : Sl) (m : Nat) (d : Dat) : Prop := Pl m d ∧ (x = .d d ∨ ∃ k ds, x = .c k ∧ d = .lst ds ∧ S[k]? = some (.lst ds))
theorem plS_d {m : Nat} (h : Pl m d) : PlS S (.d d) m d := ⟨h, .inl rfl⟩
theorem plS_c {m k : Nat} (h : Pl m (.lst ds)) (hk : S[k]? = some (.lst ds)) : PlS S (.c k) m (.lst ds) := ⟨h, .inr ⟨k, ds, rfl, rfl, hk⟩⟩
theorem PlS.dp {m : Nat} {v : V} (h : PlS S x m d) (c : Ok K B H as S) (r : RepS K B as v x) : Dp K H v (py d) := by
  obtain ⟨hp, rfl | ⟨k, ds, rfl, rfl, hk⟩⟩ := h
  · exact hp.dp v (Rep.mono c.ex r)
  · obtain ⟨a, ha, rfl⟩ := r
    obtain ⟨vs, hv, rv⟩ := (c.cells k a _ ha hk).2.lst
    have rv' : Reps K H vs ds := Reps.mono c.ex rv
    exact hp.dp (.ref a) (.lst hv rv')
def eqD (d e : Dat) : Bool := PyData.eqv (py d) (py e)
theorem op2_eqD {m1 m2 : Nat} (h1 : PlS S x m1 d) (h2 : PlS S y m2 e) (hm1 : m1 ≤ 64) (hm2 : m2 ≤ 64) : Op2 K (rEqD K) x y S (.bl (eqD d e)) := fun B H as v w c r1 r2 Q q =>
  ⟨py d, py e, h1.dp c r1, h2.dp c r2, h1.1.shaped hm1, h2.1.shaped hm2, q _ B H c Evo.refl (.bl _)⟩
theorem op2_neD {m1 m2 : Nat} (h1 : PlS S x m1 d) (h2 : PlS S y m2 e) (hm1 : m1 ≤ 64) (hm2 : m2 ≤ 64) : Op2 K (rNeD K) x y S (.bl (!eqD d e)) := fun B H as v w c r1 r2 Q q =>
  ⟨py d, py e, h1.dp c r1, h2.dp c r2, h1.1.shaped hm1, h2.1.shaped hm2, q _ B H c Evo.refl (.bl _)⟩
theorem eqD_refl {m : Nat} (h : Pl m d) : eqD d d = true := SeqAt.eqv_refl _ h.lay.1
theorem eqD_int {i j : Int} : eqD (.int i) (.int j) = decide (i = j) := by
  show (i == j) = _
  by_cases h : i = j
  · subst h; simp
  · simp [h]
theorem eqvAll_map {α : Type} [DecidableEq α] (f : α → Dat) (h : ∀ x y, eqD (f x) (f y) = decide (x = y)) : ∀ xs ys : List α, PyData.eqvAll (pyAll (xs.map f)) (pyAll (ys.map f)) = decide (xs = ys)
  | [], [] => by simp [pyAll, PyData.eqvAll]
  | [], y :: ys => by simp [pyAll, PyData.eqvAll]
  | x :: xs, [] => by simp [pyAll, PyData.eqvAll]
  | x :: xs, y :: ys => by
    show (PyData.eqv (py (f x)) (py (f y)) && PyData.eqvAll (pyAll (xs.map f)) (pyAll (ys.map f))) = _
    rw [eqvAll_map f h xs ys]
    have := h x y
    unfold eqD at this
    rw [this]
    by_cases h1 : x = y <;> by_cases h2 : xs = ys <;> simp [h1, h2]
theorem eqD_tup {α : Type} [DecidableEq α] (f : α → Dat) (h : ∀ x y, eqD (f x) (f y) = decide (x = y)) (xs ys : List α) : eqD (.tup (xs.map f)) (.tup (ys.map f)) = decide (xs = ys) := eqvAll_map f h xs ys
theorem eqD_lst {α : Type} [DecidableEq α] (f : α → Dat) (h : ∀ x y, eqD (f x) (f y) = decide (x = y)) (xs ys : List α) : eqD (.lst (xs.map f)) (.lst (ys.map f)) = decide (xs = ys) := eqvAll_map f h xs ys
theorem op2_eq_int {i j : Int} : Op2 K rEq (.d (.int i)) (.d (.int j)) S (.bl (decide (i = j))) := fun B H as v w c h1 h2 Q q => by
  cases h1; cases h2
  have e : decide (V.int i = V.int j) = decide (i = j) := by
    by_cases h : i = j
    · subst h; simp
    · simp [h]
  refine ⟨rfl, ?_⟩
  rw [e]
  exact q _ B H c Evo.refl (.bl _)
theorem op2_ne_int {i j : Int} : Op2 K rNe (.d (.int i)) (.d (.int j)) S (.bl (!decide (i = j))) := fun B H as v w c h1 h2 Q q => by
  cases h1; cases h2
  have e : decide (V.int i = V.int j) = decide (i = j) := by
    by_cases h : i = j
    · subst h; simp
    · simp [h]
  refine ⟨rfl, ?_⟩
  rw [e]
  exact q _ B H c Evo.refl (.bl _)
/-! ### isinstance -/
def tyD : Dat → Option String
  | .non => some "NoneType"
  | .bl _ => some "bool"
  | .int _ => some "int"
  | .str _ => some "str"
  | .tup _ => some "tuple"
  | .lst _ => some "list"
  | .dd => some "dict"
  | _ => none
theorem tyX_of {T : String} {v : V} (c : Ok K B H as S) (h : tyD d = some T) (r : Rep K B v d) : TyX K H v (.type T) := by
  cases r with
  | non => cases h; exact .base .non
  | bl b => cases h; exact .base (.bl b)
  | int i => cases h; exact .base (.int i)
  | str s => cases h; exact .base (.str s)
  | ty n => cases h
  | tup h1 r1 =>
    cases h
    rcases Evl.ex_t c.ex h1 with (z | ⟨o, z⟩) | ⟨o, its, n, z, zc, _⟩
    · exact .base (.tup z)
    · exact .fTuple z
    · exact .kTuple z zc
  | lst h1 r1 => cases h; exact .base (.lst (c.ex _ _ h1))
  | scr h1 => cases h
  | ins h1 r1 => cases h
  | adr a => cases h
  | dd h1 => cases h; exact .base (.dT (c.ex _ _ h1))
theorem cd_isi {T N : String} (h : tyD d = some T) (hk : kitB T N = some b) : CallD K (rIsi K) [.d d, .d (.ty N)] S (.bl b) S := fun B H as vs c r Q q => by
  cases r with
  | cons r1 rr =>
    cases rr with
    | cons r2 rr =>
      cases rr; cases r2
      exact ⟨_, _, .type T, .type N, b, rfl, .ty N, tyX_of c h r1, kit_ty hk, q _ B H c Evo.refl (.bl b)⟩
/-- what an own class is for isinstance -/
structure InsC (K : PySem.W.Frag) (C : Addr) : Prop where
  cl : Cls K C
  ha : PySem.W.findIn K (.ref C) "__class__" = some (some (.builtin "object.__class__"))
  hn : PySem.W.specialIn K (.builtin "object.__class__") "__get__" = some (some (.builtin "getset_descriptor.__get__"))
  htk : PySem.W.takesIn K (.builtin "object.__class__") = some true
  hm : PySem.W.mroIn K C (.type "object") = some true
theorem cd_isiI {C : Addr} {fs : List (Str × Dat)} {cv : V} {cu : Value} {cd : Dat} (T : InsC K C) (hc : ∀ B v, Rep K B v cd → v = cv) (hcv : ClsV cv cu) (hk : PySem.W.kitOne K (.ref C) cu = some b) : CallD K (rIsi K) [.d (.ins C fs), .d cd] S (.bl b) S := fun B H as vs c r Q q => by
  cases r with
  | cons r1 rr =>
    cases rr with
    | cons r2 rr =>
      cases rr
      have e := hc _ _ r2
      subst e
      cases r1 with
      | ins h1 r1 => exact ⟨_, _, .ref C, cu, b, rfl, hcv, .base (.ins (c.ex _ _ h1) T.cl T.ha T.hn T.htk T.hm), hk, q _ B H c Evo.refl (.bl b)⟩
/-- an instance, asked for its own class -/
theorem cd_isiO {C C' : Addr} {fs : List (Str × Dat)} (T : InsC K C) (hk : PySem.W.kitOne K (.ref C) (.ref C') = some b) : CallD K (rIsi K) [.d (.ins C fs), .d (.adr C')] S (.bl b) S :=
  cd_isiI T (fun B v r => by cases r; rfl) (.own C') hk
/-- another value, asked for an own class -/
theorem cd_isiN {T : String} {C : Addr} (h : tyD d = some T) (hk : PySem.W.kitOne K (.type T) (.ref C) = some b) : CallD K (rIsi K) [.d d, .d (.adr C)] S (.bl b) S := fun B H as vs c r Q q => by
  cases r with
  | cons r1 rr =>
    cases rr with
    | cons r2 rr =>
      cases rr; cases r2
      exact ⟨_, _, .type T, .ref C, b, rfl, .own C, tyX_of c h r1, hk, q _ B H c Evo.refl (.bl b)⟩
end
end RW

set_option Elab.async false
set_option linter.all false
set_option maxRecDepth 100000
set_option maxHeartbeats 4000000
namespace RW
open PySem PySem.Spec PyProof.Rows L2
open Evl (Ex)
section
variable {K : PySem.W.Frag} {n : Nat} {te ta tb tc to ti tv : TE} {tt tu : TT} {tA tR : TA} {env env' : Env1} {S S1 S2 S3 : List Dat} {x y z : Sl} {d e : Dat} {ds es : List Dat} {r r' : R2} {P P' : Post} {t u : TS}
  {B B0 B1 B' H H0 H1 H' : Hp} {as as0 as1 : List Addr} {D : Ends} {σ : L2.St} {i j : Int} {k : Nat} {a b c : Bool}
theorem o_le : Op2 K (rI0 fun i j => V.bl (decide (i ≤ j))) (.d (.int i)) (.d (.int j)) S (.bl (decide (i ≤ j))) := op2_int0 fun B => .bl _
theorem o_lt : Op2 K (rI0 fun i j => V.bl (decide (i < j))) (.d (.int i)) (.d (.int j)) S (.bl (decide (i < j))) := op2_int0 fun B => .bl _
theorem o_gt : Op2 K (rI0 fun i j => V.bl (decide (j < i))) (.d (.int i)) (.d (.int j)) S (.bl (decide (j < i))) := op2_int0 fun B => .bl _
theorem o_ge : Op2 K (rI0 fun i j => V.bl (decide (j ≤ i))) (.d (.int i)) (.d (.int j)) S (.bl (decide (j ≤ i))) := op2_int0 fun B => .bl _
theorem o_leT (h : i ≤ j) : Op2 K (rI0 fun i j => V.bl (decide (i ≤ j))) (.d (.int i)) (.d (.int j)) S (.bl true) := by have := @o_le K S i j; rwa [decide_eq_true h] at this
theorem o_ltT (h : i < j) : Op2 K (rI0 fun i j => V.bl (decide (i < j))) (.d (.int i)) (.d (.int j)) S (.bl true) := by have := @o_lt K S i j; rwa [decide_eq_true h] at this
theorem o_add : Op2 K (rI0 fun i j => V.int (i + j)) (.d (.int i)) (.d (.int j)) S (.int (i + j)) := op2_int0 fun B => .int _
theorem o_sub : Op2 K (rI0 fun i j => V.int (i - j)) (.d (.int i)) (.d (.int j)) S (.int (i - j)) := op2_int0 fun B => .int _
theorem o_mul (h : CMul i j) : Op2 K (rI CMul fun i j => V.int (i * j)) (.d (.int i)) (.d (.int j)) S (.int (i * j)) := op2_int h fun B => .int _
theorem o_mod (h : 0 < j) : Op2 K (rI (fun x j => 0 < j) fun i j => V.int (i % j)) (.d (.int i)) (.d (.int j)) S (.int (i % j)) := op2_int h fun B => .int _
theorem o_fdivW (h : CDivW i j) : Op2 K (rI CDivW fun i j => V.int (i / j)) (.d (.int i)) (.d (.int j)) S (.int (i / j)) := op2_int h fun B => .int _
theorem o_pow (h : CPow i j) : Op2 K (rI CPow fun i j => V.int (i ^ j.toNat)) (.d (.int i)) (.d (.int j)) S (.int (i ^ j.toNat)) := op2_int h fun B => .int _
theorem o_neg : Op1 K (rU fun i => V.int (-i)) (.d (.int i)) S (.int (-i)) := op1_int fun B => .int _
theorem cm_l (h1 : -(2 ^ 64) < i) (h2 : i < 2 ^ 64) : CMul i j := .inl ⟨h1, h2⟩
theorem cm_r (h1 : -(2 ^ 64) < j) (h2 : j < 2 ^ 64) : CMul i j := .inr ⟨h1, h2⟩
/-- ** of any base -/
def CPowW (i j : Int) : Prop := 0 ≤ j ∧ (Builtin.Int.intBits i : Int) * j ≤ 2 ^ 27
theorem op_powW {X : Cx} : OpR X (binaryOp .Pow) (rI CPowW fun i j => .int (i ^ j.toNat)) := opI fun i j t u A E s hc q => pow_int hc.1 hc.2 q
theorem o_powW (h : CPowW i j) : Op2 K (rI CPowW fun i j => V.int (i ^ j.toNat)) (.d (.int i)) (.d (.int j)) S (.int (i ^ j.toNat)) := op2_int h fun B => .int _
theorem en_mapA {α : Type} {xs : List α} {g : α → Dat} (h : α → Dat) {wi : TI} {tg : TG} {vs : List Nat} {G : List Addr → List Addr → List Dat → Prop} {is : List Nat} (hw : IterD K wi env S G (xs.map g) S1) (hz : xs.length ≤ sizeLine)
    (hG : ∀ as : List Addr, as.length = S1.length → G as as S1) (his : ∀ i ∈ is, i ∈ vs) (f : α → Env1 → Env1)
    (hs : ∀ (a : α), a ∈ xs → TgD K tg (g a) is (f a) ∧ Ev K te (f a (wipeE env vs)) S1 (.d (h a)) S1) : EvN K (tLc wi tg tYes te vs) env S (xs.map h) S1 := by
  refine en_lc (es := xs.map h) (S' := S1) hw (by rw [List.length_map]; exact hz) (fun i acc S' => acc = (xs.take i).map h ∧ S' = S1) ⟨by simp, rfl⟩ (fun i acc S' h as l1 l2 => by rw [h.2]; exact hG as l1) (fun i d acc S' hd hi => ?_) (fun acc S2 h => ?_)
  · obtain ⟨rfl, rfl⟩ := hi
    rw [List.getElem?_map, Option.map_eq_some_iff] at hd
    obtain ⟨a, ha, rfl⟩ := hd
    obtain ⟨tg, hev⟩ := hs a (List.mem_of_getElem? ha)
    exact ⟨is, f a, true, S', tg, his, et_yes, fun _ => ⟨_, _, hev, (map_take h ha).symm, rfl⟩, fun h => by cases h⟩
  · obtain ⟨rfl, rfl⟩ := h
    exact ⟨by rw [List.length_map, List.take_length], rfl⟩
theorem filter_take {α : Type} (T : α → Bool) {l : List α} {i : Nat} {x : α} (h : l[i]? = some x) : (l.take (i + 1)).filter T = (l.take i).filter T ++ (if T x = true then [x] else []) := by
  have hl := (List.getElem?_eq_some_iff.mp h).1
  have e : l[i] = x := (List.getElem?_eq_some_iff.mp h).2
  rw [List.take_succ_eq_append_getElem hl, e, List.filter_append]
  congr 1
  by_cases q : T x = true <;> simp [q]
theorem en_filterA {α : Type} {xs : List α} {g : α → Dat} (T : α → Bool) (h : α → Dat) {wi : TI} {tg : TG} {vs : List Nat} {G : List Addr → List Addr → List Dat → Prop} {is : List Nat} (hw : IterD K wi env S G (xs.map g) S1) (hz : xs.length ≤ sizeLine)
    (hG : ∀ as : List Addr, as.length = S1.length → G as as S1) (his : ∀ i ∈ is, i ∈ vs) (f : α → Env1 → Env1)
    (hs : ∀ (a : α), a ∈ xs → TgD K tg (g a) is (f a) ∧ EvT K tt (f a (wipeE env vs)) S1 (T a) S1 ∧ (T a = true → Ev K te (f a (wipeE env vs)) S1 (.d (h a)) S1)) : EvN K (tLc wi tg tt te vs) env S ((xs.filter T).map h) S1 := by
  refine en_lc (es := (xs.filter T).map h) (S' := S1) hw (by rw [List.length_map]; exact hz) (fun i acc S' => acc = ((xs.take i).filter T).map h ∧ S' = S1) ⟨by simp, rfl⟩ (fun i acc S' h as l1 l2 => by rw [h.2]; exact hG as l1) (fun i d acc S' hd hi => ?_) (fun acc S2 h => ?_)
  · obtain ⟨rfl, rfl⟩ := hi
    rw [List.getElem?_map, Option.map_eq_some_iff] at hd
    obtain ⟨a, ha, rfl⟩ := hd
    obtain ⟨tg, htt, hev⟩ := hs a (List.mem_of_getElem? ha)
    refine ⟨is, f a, T a, S', tg, his, htt, fun q => ⟨_, _, hev q, ?_, rfl⟩, fun q => ⟨?_, rfl⟩⟩
    · rw [filter_take T ha, if_pos q, List.map_append]; rfl
    · rw [filter_take T ha, if_neg (by simp [q]), List.append_nil]
  · obtain ⟨rfl, rfl⟩ := h
    exact ⟨by rw [List.length_map, List.take_length], rfl⟩
/-- with a state that goes along: the vat -/
theorem en_fold {α β : Type} {xs : List α} {g : α → Dat} {es : List β} (h : β → Dat) (Sf : Nat → List Dat) {wi : TI} {tg : TG} {vs : List Nat} {G : List Addr → List Addr → List Dat → Prop} {is : List Nat} (hw : IterD K wi env S G (xs.map g) (Sf 0)) (hz : xs.length ≤ sizeLine) (hl : es.length = xs.length)
    (hG : ∀ i (as : List Addr), as.length = (Sf i).length → G as as (Sf i)) (hSl : ∀ i, (Sf i).length = (Sf 0).length) (his : ∀ i ∈ is, i ∈ vs) (f : α → Env1 → Env1)
    (hs : ∀ (i : Nat) (a : α) (b : β), xs[i]? = some a → es[i]? = some b → TgD K tg (g a) is (f a) ∧ Ev K te (f a (wipeE env vs)) (Sf i) (.d (h b)) (Sf (i + 1))) : EvN K (tLc wi tg tYes te vs) env S (es.map h) (Sf xs.length) := by
  refine en_lc (es := es.map h) (S' := Sf xs.length) hw (by rw [List.length_map]; exact hz) (fun i acc S' => acc = (es.take i).map h ∧ S' = Sf i) ⟨by simp, rfl⟩ (fun i acc S' h as l1 l2 => by rw [h.2] at l2 ⊢; exact hG i as l2) (fun i d acc S' hd hi => ?_) (fun acc S2 h => ?_)
  · obtain ⟨rfl, rfl⟩ := hi
    rw [List.getElem?_map, Option.map_eq_some_iff] at hd
    obtain ⟨a, ha, rfl⟩ := hd
    have hlt : i < es.length := by rw [hl]; exact (List.getElem?_eq_some_iff.mp ha).1
    obtain ⟨tg, hev⟩ := hs i a es[i] ha (List.getElem?_eq_getElem hlt)
    exact ⟨is, f a, true, _, tg, his, et_yes, fun _ => ⟨_, _, hev, (map_take h (List.getElem?_eq_getElem hlt)).symm, rfl⟩, fun h => by cases h⟩
  · obtain ⟨rfl, rfl⟩ := h
    refine ⟨?_, by rw [List.length_map]⟩
    rw [List.length_map, List.take_of_length_le (by omega)]
theorem sp_forA {α : Type} {xs : List α} {g : α → Dat} {wi : TI} {tg : TG} {tb : TS} {G : List Addr → List Addr → List Dat → Prop} (hw : IterD K wi env S G (xs.map g) S1) (Inv : Nat → Env1 → List Dat → Prop) (h0 : Inv 0 env S1)
    (hG : ∀ i env' S' as as2, Inv i env' S' → as.length = S1.length → as2.length = S'.length → as2.take n = as.take n → G as as2 S')
    (hs : ∀ i a env' S', xs[i]? = some a → Inv i env' S' → ∃ is f, TgD K tg (g a) is f ∧ SP K n tb (f env') S' { P with nx := Inv (i + 1), ct := Inv (i + 1), bk := P.nx })
    (hd : ∀ env' S', Inv xs.length env' S' → P.nx env' S') : SP K n (tFor wi tg tb) env S P := by
  refine sp_for hw Inv h0 hG (fun i d env' S' hd hi => ?_) (fun env' S' h => hd env' S' (by rwa [List.length_map] at h))
  rw [List.getElem?_map, Option.map_eq_some_iff] at hd
  obtain ⟨a, ha, rfl⟩ := hd
  exact hs i a env' S' ha hi
theorem rng_map {lo : Int} {n : Nat} : rng lo n = (List.range n).map fun i => Dat.int (lo + (i : Nat)) := rfl
theorem zip_map {α β : Type} (f : α → Dat) (g : β → Dat) (u : List α) (v : List β) : zipD (u.map f) (v.map g) = (u.zip v).map fun p => Dat.tup [f p.1, g p.2] := by
  unfold zipD
  rw [List.zipWith_map]
  induction u generalizing v with
  | nil => rfl
  | cons x u ih => cases v with
    | nil => rfl
    | cons y v => simp [ih]
theorem enum_map {α : Type} (f : α → Dat) (u : List α) : enumD (u.map f) = u.zipIdx.map fun p => Dat.tup [.int (p.2 : Nat), f p.1] := by
  unfold enumD
  apply List.ext_getElem
  · simp
  · intro i h1 h2; simp
theorem WalkD.weak {J : It} {G G' : List Addr → List Dat → Prop} (w : WalkD K B J G ds) (h : ∀ as2 S2, G' as2 S2 → G as2 S2) : WalkD K B J G' ds :=
  ⟨fun B2 H2 as2 S2 i e c g hi => w.go B2 H2 as2 S2 i e c (h _ _ g) hi, fun B2 H2 as2 S2 i x H3 e c g hi y => w.yld B2 H2 as2 S2 i x H3 e c (h _ _ g) hi y, fun B2 H2 as2 S2 e c g => w.stop B2 H2 as2 S2 e c (h _ _ g)⟩
theorem IterD.weak {wi : TI} {G G' : List Addr → List Addr → List Dat → Prop} (w : IterD K wi env S G ds S1) (h : ∀ as as2 S2, G' as as2 S2 → G as as2 S2) : IterD K wi env S G' ds S1 := fun B H as σ c g R q =>
  w B H as σ c g R fun J B1 H1 c1 e1 w1 => q J B1 H1 c1 e1 (w1.weak (h as))
theorem it_zipA {α β : Type} {u : List α} {v : List β} {f : α → Dat} {g : β → Dat} {x y : Dat} (h : EvA K tA env S [.d x, .d y] S1) (hx : Seq S1 (.d x) (u.map f)) (hy : Seq S1 (.d y) (v.map g)) : IterD K (iZipG K tA) env S G0 ((u.zip v).map fun p => Dat.tup [f p.1, g p.2]) S1 := by
  rw [← zip_map]; exact (it_zip h hx hy).weak fun _ _ _ _ => ⟨trivial, trivial⟩
theorem it_enumA {α : Type} {u : List α} {f : α → Dat} {x : Dat} (h : EvA K tA env S [.d x] S1) (hx : Seq S1 (.d x) (u.map f)) : IterD K (iEnumG K tA) env S G0 (u.zipIdx.map fun p => Dat.tup [.int (p.2 : Nat), f p.1]) S1 := by
  rw [← enum_map]; exact (it_enum h hx).weak fun _ _ _ _ => trivial
/-- return a new list that was just made -/
def SpN (K : PySem.W.Frag) (G : List Sl → List Dat → List Dat → List Dat → Prop) : Sp := fun vs H Q _ => ∃ B as S ss r S', Ok K B H as S ∧ RepSs K B as vs ss ∧ G ss S r S' ∧
  ∀ p B' H' ws, Ok K B' H' as S' → Evo B H as B' H' → Fresh H as p → B' p = none → H' p = some (.lst ws) → Reps K B' ws r → Q (.ref p) H'
theorem en_call {G : List Sl → List Dat → List Dat → List Dat → Prop} {ss : List Sl} {E : XK} (h : EvA K tA env S ss S1) (hg : G ss S1 ds S2) : EvN K (tCall (SpN K G) [] E tA) env S ds S2 := fun B H as σ c g Q q =>
  h B H as σ c g _ fun vs B1 H1 c1 e1 r1 => ⟨B1, as, S1, ss, ds, S2, c1, by rw [List.append_nil]; exact r1, hg, fun p B2 H2 ws c2 e2 hp hb hl r2 => q p B2 H2 ws c2 (e1.trans e2) ⟨hp.1, e1.oldN hp.2⟩ hb hl r2⟩
theorem spn_len {G : List Sl → List Dat → List Dat → List Dat → Prop} {k : Nat} (h : ∀ ss S r S', G ss S r S' → ss.length = k) : ∀ vs H Q E, SpN K G vs H Q E → vs.length = k := fun vs H Q E q => by
  obtain ⟨B, as, S, ss, r, S', c, rs, g, _⟩ := q
  rw [rs.length]
  exact h ss S r S' g
/-- isinstance told as a fact of the data -/
theorem cd_sortedI {ns ns' : List Int} (h : SeqL S x (ns.map Dat.int)) (hp : ns.Perm ns') (hs : ns'.Pairwise (· ≤ ·)) : CallD K (rSortedI K) [x] S (.lst (ns'.map Dat.int)) S := fun B H as vs c r Q q => by
  cases r with
  | cons r1 rr =>
    cases rr
    obtain ⟨a, ws, rfl, hq, hr⟩ := h.read c r1
    rw [hr.ints] at hq
    refine ⟨a, ns, rfl, Evl.sq_of hq, fun ms p h1 h2 hpn => ?_⟩
    have e : ms = ns' := (h1.trans hp).eq_of_pairwise (fun a b _ _ h1 h2 => Int.le_antisymm h1 h2) h2 hs
    subst e
    have rr : ∀ ms : List Int, Reps K (upd B p (.lst (ms.map V.int))) (ms.map V.int) (ms.map Dat.int) := fun ms => by
      have : ∀ (ks : List Int) (B : Hp), Reps K B (ks.map V.int) (ks.map Dat.int) := fun ks B => by
        induction ks with
        | nil => exact .nil
        | cons k ks ih => exact .cons (.int k) ih
      exact this ms _
    exact q _ (upd B p (.lst (ms.map V.int))) _ (c.new hpn) (Evo.new c hpn) (.lst upd_same (rr ms))
theorem ix_seqK {X : Cx} (K : PySem.W.Frag) (h : X.K = K := by rfl) : IxR X (rIx K) := h ▸ ix_seq
theorem pi_seqK {X : Cx} (K : PySem.W.Frag) {tg l : Expr} {tl : TE} (hl : PE X l tl) (h : X.K = K := by rfl) : PI X tg l (iSeq K tl) := h ▸ pi_seq hl
theorem pt_truK {X : Cx} (K : PySem.W.Frag) {e : Expr} {ta : TE} (ha : PE X e ta) (h : X.K = K := by rfl) (he : ∀ whole, isTrue e X.env whole = (do let v ← whole; standAt e.pos; holding [v] (truthy v)) := by intro _; rfl) : PT X e (tTru K ta) := h ▸ pt_tru ha he
theorem call_lenK {X : Cx} (K : PySem.W.Frag) (h : X.K = K := by rfl) : CallR X (.builtin "len") (rLenD K) := h ▸ call_lenD
theorem call_tupK {X : Cx} (K : PySem.W.Frag) (hc : X.calm = true) (h : X.K = K := by rfl) : CallR X (.type "tuple") (rTupD K) := h ▸ call_tupD hc
end
end RW

set_option Elab.async false
set_option linter.all false
set_option maxRecDepth 100000
set_option maxHeartbeats 4000000
namespace RW
open PySem PySem.Spec PyProof.Rows L2
open Evl (Ex)
section
variable {K : PySem.W.Frag} {n : Nat} {te ta tb tc to ti tv : TE} {tt tu : TT} {tA tR : TA} {env env' : Env1} {S S1 S2 S3 : List Dat} {x y z : Sl} {d e : Dat} {ds es : List Dat} {r r' : R2} {P P' : Post} {t u : TS}
  {B B0 B1 B2 B' H H0 H1 H2 H' : Hp} {as as0 as1 : List Addr} {D : Ends} {σ : L2.St} {j k : Nat} {a b c : Bool}
theorem Evo.kept {p : Addr} {o : HO} (e : Evo B1 H1 as B2 H2) (hp : p ∉ as) (h1 : H1 p = some o) (hb : B1 p = none) (ht : ∀ xs, o ≠ .tup xs := by exact fun _ z => nomatch z) (hc : ∀ a q, o ≠ LamX.CodeO a q := by (intro _ _ z; unfold LamX.CodeO at z; cases z)) (hn : ∀ ps, o ≠ .tbl ps := by exact fun _ z => nomatch z) : H2 p = some o ∧ B2 p = none :=
  have h3 := e.fr p o hp h1 hn
  ⟨h3, by
    rcases e.gr p o h1 hn with z | ⟨o', fo, z⟩
    · exact z.trans hb
    · rw [h3] at z; cases z; exact (fo.elim (fun ⟨ys, z⟩ => ht ys z) fun ⟨b, r, z⟩ => hc b r z).elim⟩
/-- (xs, y) with xs a new list that will be changed -/
theorem sp_pairC (h : EvN K ta env S ds S1) (hv : Ev K tb env S1 y S2) (q : SP K n u ((env.set j (some (.c S2.length))).set k (some y)) (S2 ++ [.lst ds]) P) :
    SP K n (tSeq (tAsg (tTup (tCons ta (tCons tb tNil))) (gTup K 2 (gCons (gName j) (gCons (gName k) gNil)))) u) env S P := fun B0 H0 as0 Bk B H as σ hl f c g D m =>
  h B H as σ c g _ fun p B1 H1 vs c1 e1 hp hb h1 r1 => hv B1 H1 as σ c1 (g.mono e1.ex) _ fun w B2 H2 c2 e2 r2 => ⟨by show 2 ≤ sizeLine; decide, fun t ht => by
    have hpa : p ∉ as := hp.1
    obtain ⟨k1, k2⟩ := e2.kept hpa h1 hb
    have c3 := c2.new (o := .tup [.ref p, w]) ht
    have e3 := Evo.new (o := .tup [.ref p, w]) c2 ht
    have e03 := (e1.trans e2).trans e3
    have npt : p ≠ t := by rintro rfl; rw [ht] at k1; cases k1
    refine ⟨t, _, rfl, Evl.st_of upd_same, rfl, _, _, rfl, _, _, rfl, rfl, ?_⟩
    refine q B0 H0 as0 Bk _ _ (as ++ [p]) _ hl ((f.step e03).push (f.evo.oldN hp.2)) (c3.push (by rw [upd_ne npt]; exact k2) hpa (.ofL (by rw [upd_ne npt]; exact k1) ((r1.mono e2.ex).mono e3.ex))) ((((g.mono e03.ex).grow).set (s := .c S2.length) j ?_).set k ((r2.mono e3.ex).grow)) D m
    exact ⟨p, by rw [← c2.len]; simp, rfl⟩⟩
/-- both new lists -/
theorem sp_pairCC (h : EvN K ta env S ds S1) (hv : EvN K tb env S1 es S2) (q : SP K n u ((env.set j (some (.c S2.length))).set k (some (.c (S2.length + 1)))) (S2 ++ [.lst ds] ++ [.lst es]) P) :
    SP K n (tSeq (tAsg (tTup (tCons ta (tCons tb tNil))) (gTup K 2 (gCons (gName j) (gCons (gName k) gNil)))) u) env S P := fun B0 H0 as0 Bk B H as σ hl f c g D m =>
  h B H as σ c g _ fun p B1 H1 vs c1 e1 hp hb h1 r1 => hv B1 H1 as σ c1 (g.mono e1.ex) _ fun p2 B2 H2 ws c2 e2 hp2 hb2 h2 r2 => ⟨by show 2 ≤ sizeLine; decide, fun t ht => by
    have hpa : p ∉ as := hp.1
    have hpa2 : p2 ∉ as := hp2.1
    have hpp : p ≠ p2 := by rintro rfl; exact hp2.2.no h1 (fun _ z => nomatch z)
    obtain ⟨k1, k2⟩ := e2.kept hpa h1 hb
    have c3 := c2.new (o := .tup [.ref p, .ref p2]) ht
    have e3 := Evo.new (o := .tup [.ref p, .ref p2]) c2 ht
    have e03 := (e1.trans e2).trans e3
    have npt : p ≠ t := by rintro rfl; rw [ht] at k1; cases k1
    have npt2 : p2 ≠ t := by rintro rfl; rw [ht] at h2; cases h2
    refine ⟨t, _, rfl, Evl.st_of upd_same, rfl, _, _, rfl, _, _, rfl, rfl, ?_⟩
    have c4 := c3.push (p := p) (by rw [upd_ne npt]; exact k2) hpa (.ofL (by rw [upd_ne npt]; exact k1) ((r1.mono e2.ex).mono e3.ex))
    have c5 := c4.push (p := p2) (by rw [upd_ne npt2]; exact hb2) (by simp [hpa2, hpp.symm]) (.ofL (by rw [upd_ne npt2]; exact h2) (r2.mono e3.ex))
    have f4 := (f.step e03).push (f.evo.oldN hp.2)
    refine q B0 H0 as0 Bk _ _ (as ++ [p] ++ [p2]) _ hl (f4.push (f.evo.oldN (e1.oldN hp2.2))) c5 ((((g.mono e03.ex).grow).grow.set (s := .c S2.length) j ?_).set (s := .c (S2.length + 1)) k ?_) D m
    · exact ⟨p, by rw [← c2.len]; simp, rfl⟩
    · exact ⟨p2, by rw [← c2.len]; simp, rfl⟩⟩
end
end RW
namespace RW
open PySem PySem.Spec PyProof.Rows L2
section
variable {K : PySem.W.Frag} {te : TE} {tA : TA} {env : Env1} {S S1 S1' : List Dat} {r : Sl} {rs : List Sl} {ds : List Dat}
theorem Ev.toS (h : Ev K te env S r S1) (e : S1 = S1') : Ev K te env S r S1' := e ▸ h
theorem EvN.toS (h : EvN K te env S ds S1) (e : S1 = S1') : EvN K te env S ds S1' := e ▸ h
theorem EvA.toS (h : EvA K tA env S rs S1) (e : S1 = S1') : EvA K tA env S rs S1' := e ▸ h
theorem it_rangeN {m : Nat} (h : EvA K tA env S [.d (.int m)] S1) (hm : m ≤ 1000) : IterD K (iRng1 tA) env S G0 ((List.range m).map fun i => Dat.int (0 + (i : Nat))) S1 := by
  have := it_range1 h ⟨by omega, by omega⟩
  rwa [Int.toNat_natCast, rng_map] at this
end
end RW

set_option Elab.async false
set_option linter.all false
set_option maxRecDepth 100000
set_option maxHeartbeats 4000000
namespace RwT
open PySem PySem.Spec PyProof.Rows L2
theorem tuple_mul1 (l : Addr) (items : Array Value) (n : Nat) (dd : Option Addr) (sl : Array (Option Value)) (u : Tok) :
    Meets (Builtin.«tuple.__mul__» ⟨[.ref l, .int 1 u], []⟩) (fun _ R s => s.heap.get? l = some { cls := .type "tuple", dict := dd, data := .seq items n, slots := sl } ∧
      R (.ok (.ret (Value.ref l))) s) :=
  .of_wp fun prog w A R s h => by
    obtain ⟨hp, g, d, tk, os⟩ := s
    obtain ⟨hl, h⟩ := h
    have f1 := AutoSeq1.idx_int
    wp_walk using wpAny_loadPart' hl
    repeat (first
      | (refine wpAny_ite_false (decide_eq_false (by decide)) ?_; wp_walk using wpAny_loadPart' hl)
      | (refine wpAny_ite_true (by simp) ?_; wp_walk using wpAny_loadPart' hl))
    exact ⟨_, rfl, h⟩
/-- tuple * n, n from 1 on -/
def rRepA (K : PySem.W.Frag) : R2 := fun x y H Q => ∃ l k xs, x = .ref l ∧ y = .int k ∧ SqT K H l xs ∧ xs ≠ [] ∧ 1 ≤ k ∧ k ≤ 1000 ∧ xs.length ≤ 1000 ∧ (k = 1 → Q (.ref l) H) ∧ (2 ≤ k → ∀ p, H p = none → Q (.ref p) (upd H p (.tup (List.replicate k.toNat xs).flatten)))
theorem op_repA {X : Cx} : OpR X (binaryOp .Mult) (rRepA X.K) := by
  intro pins s σ H x y v u Q I rx ry h
  obtain ⟨l, k, xs, rfl, rfl, hT, hne, h1, h2, hz, q1, q2⟩ := h
  by_cases hk : 2 ≤ k
  · exact op_repT pins s σ H _ _ v u Q I rx ry ⟨l, k, xs, rfl, rfl, hT, hne, hk, h2, hz, q2 hk⟩
  obtain rfl : k = 1 := by omega
  cases rx
  obtain ⟨t, rfl⟩ := ry
  obtain ⟨its, r, ⟨⟨cls, dd, data, sl⟩, ho, hc, n, hd⟩, hs⟩ := I.tuple hT
  simp only at hc hd
  subst hc hd
  refine wpAny_binaryOp_repeat_ref (T := "tuple") (U := "int") (by decide) ⟨_, ho, rfl⟩ (fun s' => typeIs_int s' 1 t) noFill_tuple_mul F.fills_int_mul F.slot_int_rmul repeat_tuple F.slot_int_index.lookup
    (call_meets F.slot_int_rmul (typeIs_int s 1 t) F.entry_int_rmul (F.args_int_rmul_2 _ _) (int_rmul_tuple 1 t l its.toArray n dd sl)
      ⟨ho, rfl, ⟨_, ho, rfl⟩, call_meets F.slot_tuple_mul ⟨_, ho, rfl⟩ F.entry_tuple_mul (F.args_tuple_mul_2 _ _) (tuple_mul1 l its.toArray n dd sl t) ⟨ho, ?_⟩⟩)
  exact ⟨.ref l, _, I, rfl, q1 rfl⟩
end RwT
namespace RW
open PySem PySem.Spec PyProof.Rows L2
theorem o_repA {K : PySem.W.Frag} {S : List Dat} {ds : List Dat} {k : Int} (hne : ds ≠ []) (h1 : 1 ≤ k) (h2 : k ≤ 1000) (hz : ds.length ≤ 1000) : Op2 K (RwT.rRepA K) (.d (.tup ds)) (.d (.int k)) S (.tup (List.replicate k.toNat ds).flatten) := fun B H as v w c r1 r2 Q q => by
  cases r2
  cases r1 with
  | tup h1' rr =>
    refine ⟨_, _, _, rfl, rfl, Evl.ex_t c.ex h1', fun e => hne ((reps_ne rr).mp e), h1, h2, by rw [rr.length]; exact hz, fun e => ?_, fun _ p hp => ?_⟩
    · subst e
      have : (List.replicate (1 : Int).toNat ds).flatten = ds := by simp
      rw [this] at q
      exact q _ B H c Evo.refl (.tup h1' rr)
    · exact q _ (upd B p _) _ (c.new hp) (Evo.new c hp) (.tup (Evl.st_of upd_same) ((reps_rep rr _).mono (Evl.Ex.new (c.Bnone hp))))
end RW

set_option Elab.async false
set_option linter.all false
set_option maxRecDepth 100000
set_option maxHeartbeats 4000000
namespace RW
open PySem PySem.Spec PyProof.Rows L2
open Evl (Ex)
theorem it_down {K : PySem.W.Frag} {tA : TA} {env : Env1} {S S1 : List Dat} {m : Nat} (h : EvA K tA env S [.d (.int ((m : Int) - 1)), .d (.int (-1)), .d (.int (-1))] S1) (hm : m ≤ 1000) : IterD K (iRng3 tA) env S G0 (rngR 0 m) S1 := fun B H as σ c g R q =>
  h B H as σ c g _ fun vs B1 H1 c1 e1 r1 => by
    cases r1 with
    | cons r1 rr =>
      cases rr with
      | cons r2 rr =>
        cases rr with
        | cons r3 rr =>
          cases rr
          cases r1; cases r2; cases r3
          have hc : RgC ((m : Int) - 1) (-1) (-1) m := by
            have := RgC.neg (i := (m : Int) - 1) (j := -1) (by omega) (by omega) (by omega) (by omega)
            rwa [show ((m : Int) - 1 - -1).toNat = m by omega] at this
          have hw : WalkD K B1 (Itc (0 + (m : Int) - 1) (-1) m) (G0 as) (rngR 0 m) := walk_rngR
          rw [show (0 : Int) + (m : Int) - 1 = (m : Int) - 1 by omega] at hw
          exact ⟨_, _, _, m, rfl, hc, q _ B1 H1 c1 e1 hw⟩
end RW

set_option Elab.async false
set_option linter.all false
set_option maxRecDepth 100000
set_option maxHeartbeats 4000000
namespace RW
open PySem PySem.Spec PyProof.Rows L2
open Evl (Ex)
/-! ### x is True, x is False: whatever x is -/
def rIsX (neg : Bool) : R2 := fun x y H Q => ∃ b : Bool, y = .bl b ∧ Q (.bl (neg != decide (x = .bl b))) H
theorem plainIs_bl {x : V} {v : Value} {b : Bool} (r : RelV x v) : plainIs v (.bool b) = true ∧ (v == Value.bool b) = decide (x = .bl b) := by
  cases x with
  | bl c =>
    cases (show v = Value.bool c from r)
    refine ⟨rfl, ?_⟩
    by_cases e : c = b
    · subst e; simp
    · have h1 : ¬ (V.bl c = V.bl b) := fun z => e (V.bl.inj z)
      rw [decide_eq_false h1]
      exact beq_eq_false_iff_ne.mpr fun z => e (Value.bool.inj z)
  | non => cases (show v = Value.none from r); exact ⟨rfl, by rw [decide_eq_false (fun z => nomatch z)]; exact beq_eq_false_iff_ne.mpr fun z => nomatch z⟩
  | int i => obtain ⟨t, rfl⟩ := r; exact ⟨rfl, by rw [decide_eq_false (fun z => nomatch z)]; exact beq_eq_false_iff_ne.mpr fun z => nomatch z⟩
  | str i => obtain ⟨t, rfl⟩ := r; exact ⟨rfl, by rw [decide_eq_false (fun z => nomatch z)]; exact beq_eq_false_iff_ne.mpr fun z => nomatch z⟩
  | byt i => obtain ⟨t, rfl⟩ := r; exact ⟨rfl, by rw [decide_eq_false (fun z => nomatch z)]; exact beq_eq_false_iff_ne.mpr fun z => nomatch z⟩
  | flt i => obtain ⟨t, rfl⟩ := r; exact ⟨rfl, by rw [decide_eq_false (fun z => nomatch z)]; exact beq_eq_false_iff_ne.mpr fun z => nomatch z⟩
  | ref a => cases (show v = Value.ref a from r); exact ⟨rfl, by rw [decide_eq_false (fun z => nomatch z)]; exact beq_eq_false_iff_ne.mpr fun z => nomatch z⟩
  | ty n => cases (show v = Value.type n from r); exact ⟨rfl, by rw [decide_eq_false (fun z => nomatch z)]; exact beq_eq_false_iff_ne.mpr fun z => nomatch z⟩
theorem op_isX {X : Cx} : OpR X (compareOp .Is) (rIsX false) := by
  intro pins s σ H x y v u Q I rx ry h
  obtain ⟨b, rfl, q⟩ := h
  cases (show u = Value.bool b from ry)
  obtain ⟨h1, h2⟩ := plainIs_bl (b := b) rx
  refine wpAny_is_plain h1 ⟨.bl (decide (x = .bl b)), H, I, ?_, by simpa using q⟩
  rw [h2]; rfl
theorem op_notX {X : Cx} : OpR X (compareOp .IsNot) (rIsX true) := by
  intro pins s σ H x y v u Q I rx ry h
  obtain ⟨b, rfl, q⟩ := h
  cases (show u = Value.bool b from ry)
  obtain ⟨h1, h2⟩ := plainIs_bl (b := b) rx
  refine wpAny_isNot_plain h1 ⟨.bl (!decide (x = .bl b)), H, I, ?_, by simpa using q⟩
  rw [h2]; rfl
section
variable {K : PySem.W.Frag} {S : List Dat} {i : Int} {b c : Bool} {neg : Bool}
theorem o_isX_int : Op2 K (rIsX neg) (.d (.int i)) (.d (.bl b)) S (.bl neg) := fun B H as v w k h1 h2 Q q => by
  cases h1; cases h2
  refine ⟨b, rfl, ?_⟩
  have e : (neg != decide (V.int i = V.bl b)) = neg := by cases neg <;> rfl
  rw [e]
  exact q _ B H k Evo.refl (.bl _)
end
end RW

set_option Elab.async false
set_option linter.all false
set_option maxRecDepth 100000
set_option maxHeartbeats 4000000
namespace RwT
open PySem PySem.Spec PyProof.Rows L2
section
variable {prog : Program} {w : World} {A : Around} {E : Value → Shared → Prop} {s : Shared} {K : PySem.W.Frag} {x y C f : Addr} {ox oy : Obj} {od od' : Option Obj}
theorem entry_ne (hu : A.units < cLine) (X : K.In s.heap) (I : PySem.W.InstAt s.heap x ox C od) (hs : PySem.W.findIn K (.ref C) "__eq__" = some (some (.ref f))) (hf : PySem.W.isFn K (.ref f) = true) {Q : Fin → Shared → Prop}
    (hcall : wpAny (model prog w) A (call (.ref f) [.ref x, .ref y]) (fun v s' => ∃ b, v = .bool b ∧ Q (.done (.ret (.bool (!b)))) s') E s) :
    wpAny (model prog w) A (Builtin.«object.__ne__» ⟨[.ref x, .ref y], []⟩) Q E s := by
  unfold Builtin.«object.__ne__»
  repeat (first
    | with_reducible refine wpAny_cRoomFor hu ?_
    | (refine wpAny_bind (m := callSpecialIfBound? (.ref x) (Str.ofString "__eq__") [.ref y])
        (PySem.W.ifBound_K X I hs hf (wpAny_mono hcall (fun r s' hr => by
          obtain ⟨b, rfl, hq⟩ := hr
          repeat (first | exact hq | exact wpAny_pure hq | exact wpAny_truthy_bool hq | (refine wpAny_bind (m := truthy (.bool _)) (wpAny_truthy_bool ?_)) | wp_step)) fun _ _ e => e)))
    | wp_step)
theorem ifBound_objNe {M : Model} {args : List Value} {Q : Option Value → Shared → Prop} (X : K.In s.heap) (I : PySem.W.InstAt s.heap x ox C od) (hs : PySem.W.findIn K (.ref C) "__ne__" = some (some (.builtin "object.__ne__")))
    (h : wpAny M A (call (.builtin "object.__ne__") (.ref x :: args)) (fun v => Q (some v)) E s) : wpAny M A (callSpecialIfBound? (.ref x) "__ne__" args) Q E s := by
  simp only [callSpecialIfBound?, bindSpecialIfBound?]
  refine wpAny_holding (wpAny_bind (wpAny_bind (wpAny_bind (I.type.here ((PySem.W.looks_findIn X hs).here ?_)))))
  refine wpAny_bind (wpAny_askSetting (wpAny_ite ?_))
  have fin : wpAny M A (call (.builtin "object.__ne__") ([.ref x] ++ args) >>= fun v => pure (some v)) Q E s := wpAny_bind (wpAny_mono h (fun v s' h' => wpAny_pure h') fun _ _ h' => h')
  split
  · exact wpAny_bind (wpAny_of_eq (F.cmp_object.ne.bind _) (wpAny_pure (by exact fin)))
  · exact wpAny_tryCatch (wpAny_bind (wpAny_of_eq (F.cmp_object.ne.bind _) (wpAny_pure (by exact fin))))
theorem rich_ne (hu : A.units + 1 < cLine) (X : K.In s.heap) (I : PySem.W.InstAt s.heap x ox C od) (I' : PySem.W.InstAt s.heap y oy C od') (hm : PySem.W.mroIn K C (.type "object") = some true)
    (hn : PySem.W.findIn K (.ref C) "__ne__" = some (some (.builtin "object.__ne__"))) (hs : PySem.W.findIn K (.ref C) "__eq__" = some (some (.ref f))) (hf : PySem.W.isFn K (.ref f) = true) {Q : Value → Shared → Prop}
    (hcall : wpAny (model prog w) A.in1 (call (.ref f) [.ref x, .ref y]) (fun v s' => ∃ b, v = .bool b ∧ Q (.bool (!b)) s') E s) :
    wpAny (model prog w) A (richCompare .NotEq (.ref x) (.ref y)) Q E s := by
  have one : wpAny (model prog w) A (tryCompare (.ref x) "__ne__" (.ref y)) (fun r s' => ∃ b, r = some (Value.bool b) ∧ Q (.bool b) s') E s := by
    unfold tryCompare
    refine wpAny_bind (ifBound_objNe X I hn (wpAny_call (codeAny_call_builtin F.cmp_object.ne.plain F.cmpEntry_ne (PySem.W.check_slot F.cmpKind_ne F.cmpSplit_ne (I.type.andThen (PySem.W.looks_mroIn X hm)) (F.cmpArgs_ne _ _)
      (entry_ne (A := A.in1) hu X I hs hf (wpAny_mono hcall (fun v s' hv => ?_) fun _ _ e => e))))))
    obtain ⟨b, rfl, hq⟩ := hv
    first | exact ⟨b, rfl, wpAny_pure ⟨_, rfl, hq⟩⟩ | exact ⟨b, rfl, wpAny_pure (wpAny_pure ⟨_, rfl, hq⟩)⟩
  unfold richCompare
  simp only [oneThing_ref]
  refine wpAny_holding (wpAny_bind (wpAny_cRoomFor (Nat.lt_of_succ_lt hu) ?_))
  rw [cmpInfo_NotEq]
  dsimp only
  refine wpAny_bind (I.type.here (wpAny_bind (I'.type.here ?_)))
  rw [show (Value.ref C != Value.ref C) = false from by simp]
  simp only [Bool.false_eq_true, if_false]
  refine wpAny_bind (wpAny_pure ?_)
  simp only [Bool.false_eq_true, if_false]
  refine wpAny_bind (wpAny_mono one (fun v s' hv => ?_) fun _ _ e => e)
  obtain ⟨b, rfl, hq⟩ := hv
  first | exact wpAny_pure hq | exact wpAny_pure (wpAny_pure hq)
end
/-- what is known of a class with an own == -/
structure OwnC (K : PySem.W.Frag) (C f : Addr) : Prop where
  eq : PySem.W.findIn K (.ref C) "__eq__" = some (some (.ref f))
  fn : PySem.W.isFn K (.ref f) = true
  ne : PySem.W.findIn K (.ref C) "__ne__" = some (some (.builtin "object.__ne__"))
  ob : PySem.W.mroIn K C (.type "object") = some true
  sub : PySem.W.notFirst K C (.ref C) = true
def rOwn (C : Addr) (sp : Sp) (E : XK) (neg : Bool) : R2 := fun x y H Q => ∃ a b dx dy fs gs, x = .ref a ∧ y = .ref b ∧ H a = some (.ins C dx fs) ∧ H b = some (.ins C dy gs) ∧ sp [.ref a, .ref b] H (fun v H' => ∃ k, v = .bl k ∧ Q (.bl (neg != k)) H') E
section
variable {X : Cx} {CX : CXT} {n : Nat} {C f : Addr} {fd : FuncData} {ps : List Str} {sp : Sp} {E : XK}
theorem call_own {A : Around} (hr : Room n A) (hA : A.frames = X.A.frames) (F : FnOk X.prog X.w X.K X.mg X.base CX n f fd ps sp) (hb : L2.Binds X.K fd ps []) (hx : Passes CX X E) {pins : List (Addr × Obj)} {σ : L2.St} {H : Hp} {s : Shared} (I : Inv X pins σ H s) {a b : Addr} {Q : VK} (h : sp [.ref a, .ref b] H Q E) :
    wpAny (model X.prog X.w) A (call (.ref f) [.ref a, .ref b]) (EP X pins σ Q) X.xe s := by
  have e0 : Env0 X.prog X.w X.K X.mg X.base A X.stack s H := by
    have e := I.env0
    exact ⟨by rw [hA]; exact e.frames, e.mod, e.bs, e.bsz, e.funs, e.frf, e.hok, e.bare⟩
  have hl := F.len _ _ _ _ h
  have r2 : Vals [V.ref a, V.ref b] [Value.ref a, Value.ref b] := .cons rfl (.cons rfl .nil)
  refine wpAny_call (codeAny_mono (F.run A X.stack s H ⟨[.ref a, .ref b], []⟩ [.ref a, .ref b] [.ref a, .ref b] _ E hr e0 (by
    have := hb s [.ref a, .ref b] I.kIn (by simpa using hl)
    simpa using this) r2 h) fun r s' hq => ?_)
  cases r with
  | error e => exact hx pins σ H s e s' I hq
  | ok fl =>
    cases fl with
    | ret w => exact I.after hq
    | next => exact False.elim hq
    | brk => exact False.elim hq
    | cont => exact False.elim hq
theorem op_ownEq (O : OwnC X.K C f) (hr : Room n X.A) (F : FnOk X.prog X.w X.K X.mg X.base CX n f fd ps sp) (hb : L2.Binds X.K fd ps []) (hx : Passes CX X E) : OpR X (compareOp .Eq) (rOwn C sp E false) := by
  intro pins s σ H x y v u Q I rx ry h
  obtain ⟨a, b, dx, dy, fs, gs, rfl, rfl, ha, hb', hp⟩ := h
  cases rx
  cases ry
  obtain ⟨mA, J, _⟩ := ins_get I.hok ha
  obtain ⟨mB, J', _⟩ := ins_get I.hok hb'
  obtain ⟨od, J, _⟩ := J.look
  obtain ⟨od', J', _⟩ := J'.look
  obtain ⟨m, hF⟩ := I.fr
  show wpAny (model X.prog X.w) X.A (richCompare .Eq (.ref a) (.ref b)) (EP X pins σ Q) X.xe s
  refine PySem.W.cmp_K (op := .Eq) (tb := .ref C) hr.units0 hF I.ok.mod.kin J J'.type O.sub O.eq O.fn ?_
  refine wpAny_mono (call_own hr rfl F hb hx I hp) (fun r s' q => ?_) fun _ _ x => x
  obtain ⟨z, H', I', rz, k, ez, q⟩ := q
  subst ez
  cases rz
  exact ⟨.bl k, H', I', rfl, by simpa using q⟩
theorem op_ownNe (O : OwnC X.K C f) (hr : Room (n + 1) X.A) (F : FnOk X.prog X.w X.K X.mg X.base CX n f fd ps sp) (hb : L2.Binds X.K fd ps []) (hx : Passes CX X E) : OpR X (compareOp .NotEq) (rOwn C sp E true) := by
  intro pins s σ H x y v u Q I rx ry h
  obtain ⟨a, b, dx, dy, fs, gs, rfl, rfl, ha, hb', hp⟩ := h
  cases rx
  cases ry
  obtain ⟨mA, J, _⟩ := ins_get I.hok ha
  obtain ⟨mB, J', _⟩ := ins_get I.hok hb'
  obtain ⟨od, J, _⟩ := J.look
  obtain ⟨od', J', _⟩ := J'.look
  show wpAny (model X.prog X.w) X.A (richCompare .NotEq (.ref a) (.ref b)) (EP X pins σ Q) X.xe s
  refine rich_ne (by have := hr.un; omega) I.kIn J J' O.ob O.ne O.eq O.fn ?_
  refine wpAny_mono (call_own hr.in1 rfl F hb hx I hp) (fun r s' q => ?_) fun _ _ x => x
  obtain ⟨z, H', I', rz, k, ez, q⟩ := q
  subst ez
  cases rz
  exact ⟨k, rfl, .bl (!k), H', I', rfl, by simpa using q⟩
end
end RwT
namespace RW
open PySem PySem.Spec PyProof.Rows L2
theorem o_own {K : PySem.W.Frag} {C : Addr} {G : List Sl → List Dat → Dat → List Dat → Prop} {E : XK} {neg k : Bool} {S : List Dat} {fs gs : List (Str × Dat)} (hg : G [.d (.ins C fs), .d (.ins C gs)] S (.bl k) S) :
    Op2 K (RwT.rOwn C (SpD K G) E neg) (.d (.ins C fs)) (.d (.ins C gs)) S (.bl (neg != k)) := fun B H as v w c r1 r2 Q q => by
  cases r1 with
  | ins h1 q1 =>
    cases r2 with
    | ins h2 q2 =>
      refine ⟨_, _, _, _, _, _, rfl, rfl, c.ex _ _ h1, c.ex _ _ h2, B, as, S, [.d (.ins C fs), .d (.ins C gs)], _, S, c, .cons (Rep.ins h1 q1 : Rep K B _ (.ins C fs)) (.cons (Rep.ins h2 q2 : Rep K B _ (.ins C gs)) .nil), hg, fun v B' H' c' e' r' => ?_⟩
      cases r'
      exact ⟨k, rfl, q _ B' H' c' e' (.bl _)⟩
end RW

set_option Elab.async false
set_option linter.all false
set_option maxRecDepth 100000
set_option maxHeartbeats 4000000
namespace RW
open PySem PySem.Spec PyProof.Rows L2
section
variable {K : PySem.W.Frag} {te ta tb to : TE} {tA : TA} {env : Env1} {S S1 S2 : List Dat} {x y : Sl} {a b acc out : Str} {ts : List TE} {i : Int}
/-! ### texts -/
theorem ev_fmtS (h : Ev K te env S (.d (.str a)) S1) (hl : a.length ≤ sizeLine) : Ev K (tFmt te) env S (.d (.str a)) S1 := fun B H as σ c g Q q =>
  h B H as σ c g _ fun v B1 H1 c1 e1 r1 => by
    cases r1
    exact .inl ⟨a, rfl, hl, q _ B1 H1 c1 e1 (.str a)⟩
theorem ev_fmtI (h : Ev K te env S (.d (.int i)) S1) (hl : i.natAbs.log2 < 1920) : Ev K (tFmt te) env S (.d (.str (Str.ofString (toString i)))) S1 := fun B H as σ c g Q q =>
  h B H as σ c g _ fun v B1 H1 c1 e1 r1 => by
    cases r1
    exact .inr ⟨i, rfl, hl, q _ B1 H1 c1 e1 (.str _)⟩
/-- the parts of an f-string, behind acc -/
def EvJ (K : PySem.W.Frag) (ts : List TE) (env : Env1) (S : List Dat) (acc out : Str) (S' : List Dat) : Prop :=
  ∀ B H as σ, Ok K B H as S → EnvR K B as σ env → ∀ Q : Str → Hp → Prop, (∀ B' H', Ok K B' H' as S' → Evo B H as B' H' → Q out H') → tJs ts acc σ H Q
theorem js_nil : EvJ K [] env S acc acc S := fun B H as σ c g Q q => q B H c Evo.refl
theorem js_cons {t : TE} (h : Ev K t env S (.d (.str a)) S1) (hl : (acc ++ a).length ≤ sizeLine) (k : EvJ K ts env S1 (acc ++ a) out S2) : EvJ K (t :: ts) env S acc out S2 := fun B H as σ c g Q q =>
  h B H as σ c g _ fun v B1 H1 c1 e1 r1 => by
    cases r1
    exact ⟨a, rfl, hl, k B1 H1 as σ c1 (g.mono e1.ex) _ fun B2 H2 c2 e2 => q B2 H2 c2 (e1.trans e2)⟩
theorem ev_joined (h : EvJ K ts env S Str.empty out S1) : Ev K (fun σ H Q => tJs ts Str.empty σ H fun out H1 => Q (.str out) H1) env S (.d (.str out)) S1 := fun B H as σ c g Q q =>
  h B H as σ c g _ fun B1 H1 c1 e1 => q _ B1 H1 c1 e1 (.str out)
/-- str(i) -/
def rStrI : List V → Hp → VK → Prop := fun xs H Q => ∃ i : Int, xs = [.int i] ∧ i.natAbs.log2 < 1920 ∧ Q (.str (Str.ofString (toString i))) H
theorem call_strI {X : Cx} : CallR X (.type "str") rStrI := call_str_int
theorem cd_strI (hl : i.natAbs.log2 < 1920) : CallD K rStrI [.d (.int i)] S (.str (Str.ofString (toString i))) S := fun B H as vs c r Q q => by
  cases r with
  | cons r1 rr =>
    cases rr; cases r1
    exact ⟨i, rfl, hl, q _ B H c Evo.refl (.str _)⟩
def rAddS : R2 := fun x y H Q => ∃ i j, x = V.str i ∧ y = V.str j ∧ i.length + j.length ≤ sizeLine ∧ Q (V.str (i ++ j)) H
theorem op_addS {X : Cx} : OpR X (binaryOp .Add) rAddS := op_add_str
theorem o_addS (hl : a.length + b.length ≤ sizeLine) : Op2 K rAddS (.d (.str a)) (.d (.str b)) S (.str (a ++ b)) := fun B H as v w c r1 r2 Q q => by
  cases r1; cases r2
  exact ⟨a, b, rfl, rfl, hl, q _ B H c Evo.refl (.str _)⟩
theorem Reps.strs {B : Hp} : ∀ {vs : List V} {ys : List Str}, Reps K B vs (ys.map Dat.str) → vs = ys.map V.str
  | _, [], .nil => rfl
  | _, y :: ys, .cons h r => by
    cases h
    rw [List.map_cons, Reps.strs r]
/-- sep.join(xs) -/
def rJoinD (K : PySem.W.Frag) : V → List V → Hp → VK → Prop := fun x xs H Q => ∃ a p ys, x = V.str a ∧ xs = [V.ref p] ∧ (SqL K H p (List.map V.str ys) ∨ SqT K H p (List.map V.str ys)) ∧ (List.map (fun x => x.length) ys).sum + ys.length * a.length ≤ 16777216 ∧ Q (V.str (Txt.join a ys)) H
theorem pe_joinK {X : Cx} (K : PySem.W.Frag) {o e : Expr} {to te : TE} {apos pos : Pos} (ho : PE X o to) (he : PE X e te) (hK : X.K = K := by rfl) (hs : starEach [e] X.env = [(false, eval e X.env)] := by rfl)
    (hb : attributeBase o (Str.ofString "join") X.env (eval o X.env) = eval o X.env := by rfl) (hl : (apos.endLine == pos.line) = true := by rfl) : PE X ((o.Attribute (Str.ofString "join") apos).Call [e] [] pos) (tM1 (rJoinD K) to te) := hK ▸ pe_join ho he hs hb hl
theorem ev_join {ys : List Str} (ho : Ev K to env S (.d (.str a)) S1) (h : Ev K te env S1 x S2) (hx : SeqL S2 x (ys.map Dat.str)) (hl : (ys.map fun x => x.length).sum + ys.length * a.length ≤ 16777216) : Ev K (tM1 (rJoinD K) to te) env S (.d (.str (Txt.join a ys))) S2 := fun B H as σ c g Q q =>
  ho B H as σ c g _ fun v B1 H1 c1 e1 r1 => by
    cases r1
    refine ⟨⟨a, rfl⟩, h B1 H1 as σ c1 (g.mono e1.ex) _ fun w B2 H2 c2 e2 r2 => ?_⟩
    obtain ⟨p, ws, rfl, hq, hr⟩ := hx.read c2 r2
    rw [hr.strs] at hq
    exact ⟨a, p, ys, rfl, rfl, .inl (Evl.sq_of hq), hl, q _ B2 H2 c2 (e1.trans e2) (.str _)⟩
end
end RW

namespace RwT
open PySem PySem.Spec PyProof.Rows L2
/-- str(o), o of an own class with a __str__ -/
def rStrO (C : Addr) (sp : Sp) (E : XK) : List V → Hp → VK → Prop := fun xs H Q => ∃ a dx fs, xs = [.ref a] ∧ H a = some (.ins C dx fs) ∧ sp [.ref a] H (fun v H' => ∃ t, v = .str t ∧ Q (.str t) H') E
section
variable {X : Cx} {CX : CXT} {n : Nat} {C f : Addr} {fd : FuncData} {ps : List Str} {sp : Sp} {E : XK}
theorem call_own1 {A : Around} (hr : Room n A) (hA : A.frames = X.A.frames) (F : FnOk X.prog X.w X.K X.mg X.base CX n f fd ps sp) (hb : L2.Binds X.K fd ps []) (hx : Passes CX X E) {pins : List (Addr × Obj)} {σ : L2.St} {H : Hp} {s : Shared} (I : Inv X pins σ H s) {a : Addr} {Q : VK} (h : sp [.ref a] H Q E) :
    wpAny (model X.prog X.w) A (call (.ref f) [.ref a]) (EP X pins σ Q) X.xe s := by
  have e0 : Env0 X.prog X.w X.K X.mg X.base A X.stack s H := by
    have e := I.env0
    exact ⟨by rw [hA]; exact e.frames, e.mod, e.bs, e.bsz, e.funs, e.frf, e.hok, e.bare⟩
  have hl := F.len _ _ _ _ h
  have r2 : Vals [V.ref a] [Value.ref a] := .cons rfl .nil
  refine wpAny_call (codeAny_mono (F.run A X.stack s H ⟨[.ref a], []⟩ [.ref a] [.ref a] _ E hr e0 (by
    have := hb s [.ref a] I.kIn (by simpa using hl)
    simpa using this) r2 h) fun r s' hq => ?_)
  cases r with
  | error e => exact hx pins σ H s e s' I hq
  | ok fl =>
    cases fl with
    | ret w => exact I.after hq
    | next => exact False.elim hq
    | brk => exact False.elim hq
    | cont => exact False.elim hq
theorem call_strO (hs : PySem.W.findIn X.K (.ref C) "__str__" = some (some (.ref f))) (hf : PySem.W.isFn X.K (.ref f) = true) (hr : Room (n + 2) X.A) (F : FnOk X.prog X.w X.K X.mg X.base CX n f fd ps sp) (hb : L2.Binds X.K fd ps []) (hx : Passes CX X E) : CallR X (.type "str") (rStrO C sp E) := by
  intro pins s σ H xs us Q I r h
  obtain ⟨a, dx, fs, rfl, ha, hp⟩ := h
  obtain ⟨u, rfl, r1⟩ := vals1 r
  cases r1
  obtain ⟨mA, J, _⟩ := ins_get I.hok ha
  obtain ⟨od, J, _⟩ := J.look
  have hr2 : Room n X.A.in1.in1 := (show Room (n + 1) X.A.in1 from Room.in1 hr).in1
  refine PySem.W.kso_call (by have := hr2.un; omega) I.kIn J hs hf ?_
  refine wpAny_mono (call_own1 hr2 rfl F hb hx I hp) (fun r s' q => ?_) fun _ _ x => x
  obtain ⟨z, H', I', rz, t, ez, q⟩ := q
  subst ez
  obtain ⟨tk, rfl⟩ := rz
  exact ⟨.str t, H', I', ⟨tk, rfl⟩, q⟩
end
end RwT
namespace RW
open PySem PySem.Spec PyProof.Rows L2
theorem cd_strO {K : PySem.W.Frag} {C : Addr} {G : List Sl → List Dat → Dat → List Dat → Prop} {E : XK} {S : List Dat} {fs : List (Str × Dat)} {t : Str} (hg : G [.d (.ins C fs)] S (.str t) S) :
    CallD K (RwT.rStrO C (SpD K G) E) [.d (.ins C fs)] S (.str t) S := fun B H as vs c r Q q => by
  cases r with
  | cons r1 rr =>
    cases rr
    cases r1 with
    | ins h1 q1 =>
      refine ⟨_, _, _, rfl, c.ex _ _ h1, B, as, S, [.d (.ins C fs)], _, S, c, .cons (Rep.ins h1 q1 : Rep K B _ (.ins C fs)) .nil, hg, fun v B' H' c' e' r' => ?_⟩
      cases r'
      exact ⟨t, rfl, q _ B' H' c' e' (.str _)⟩
end RW

set_option Elab.async false
set_option linter.all false
set_option maxRecDepth 100000
set_option maxHeartbeats 4000000
namespace RW
open PySem PySem.Spec PyProof.Rows L2
/-! rules inside comprehensions, with K given -/
theorem cr_sumK {X : Cx} (K : PySem.W.Frag) (hc : X.calm = true := by rfl) (h : X.K = K := by rfl) : CallR X (.builtin "sum") (rSum K) := h ▸ cr_sum hc
theorem cr_allK {X : Cx} (K : PySem.W.Frag) (hc : X.calm = true := by rfl) (h : X.K = K := by rfl) : CallR X (.builtin "all") (rAll K) := h ▸ cr_all hc
theorem cr_anyK {X : Cx} (K : PySem.W.Frag) (hc : X.calm = true := by rfl) (h : X.K = K := by rfl) : CallR X (.builtin "any") (rAny K) := h ▸ cr_any hc
theorem pi_zipGK {X : Cx} (K : PySem.W.Frag) {e e2 : Expr} {ta : TA} {p pos tpos : Pos} {elts : List Expr} {kk : Nat} (hg : Gl X "zip") (hm : X.mg "zip" = none) (ha : PA X [e, e2] ta) (h : X.K = K := by rfl)
    (hs : starEach [e, e2] X.env = (false, eval e X.env) :: starEach [e2] X.env := by rfl) (hpl : (backTo pos (starEach [e2] X.env)).any (·.1) = false := by rfl) :
    PI X (.Tuple elts kk tpos) (.Call (.Name "zip" p) [e, e2] [] pos) (iZipG K ta) := h ▸ pi_zipG hg hm ha hs hpl
theorem op_eqDK {X : Cx} (K : PySem.W.Frag) (hu : X.A.units + 64 < cLine) (h : X.K = K := by rfl) : OpR X (compareOp .Eq) (rEqD K) := h ▸ op_eqD hu
theorem op_neDK {X : Cx} (K : PySem.W.Frag) (hu : X.A.units + 64 < cLine) (h : X.K = K := by rfl) : OpR X (compareOp .NotEq) (rNeD K) := h ▸ op_neD hu
theorem EvN.toD {K : PySem.W.Frag} {te : TE} {env : Env1} {S S1 ds ds' : List Dat} (h : EvN K te env S ds S1) (e : ds = ds') : EvN K te env S ds' S1 := e ▸ h
theorem Ev.to' {K : PySem.W.Frag} {te : TE} {env : Env1} {S S1 S1' : List Dat} {r r' : Sl} (h : Ev K te env S r S1) (e : r = r') (e2 : S1 = S1') : Ev K te env S r' S1' := e ▸ e2 ▸ h
theorem sl_tupAK {X : Cx} (K : PySem.W.Frag) (h : X.K = K := by rfl) : SlR X (rSlA K) := h ▸ sl_tupA
theorem sl_listK {X : Cx} (K : PySem.W.Frag) (h : X.K = K := by rfl) : SlR X (rSlL K) := h ▸ sl_list
end RW

set_option Elab.async false
set_option linter.all false
set_option maxRecDepth 100000
set_option maxHeartbeats 4000000
/-! an own == beside whatever stands on its right -/
namespace RwT
open PySem PySem.Spec PyProof.Rows L2
inductive TyB (K : PySem.W.Frag) (H : Hp) : V → Value → Prop where
  | non : TyB K H .non (.type "NoneType")
  | int (i : Int) : TyB K H (.int i) (.type "int")
  | bl (b : Bool) : TyB K H (.bl b) (.type "bool")
  | str (z : Str) : TyB K H (.str z) (.type "str")
  | tup {a : Addr} {xs : List V} (h : SqT K H a xs) : TyB K H (.ref a) (.type "tuple")
  | ins {a C dx : Addr} {fs : List (Str × V)} (h : H a = some (.ins C dx fs)) : TyB K H (.ref a) (.ref C)
def rOwnA (K : PySem.W.Frag) (C : Addr) (sp : Sp) (E : XK) : R2 := fun x y H Q => ∃ a dx fs tb, x = .ref a ∧ H a = some (.ins C dx fs) ∧ TyB K H y tb ∧ PySem.W.notFirst K C tb = true ∧ sp [.ref a, y] H (fun v H' => ∃ k, v = .bl k ∧ Q (.bl k) H') E
section
variable {X : Cx} {CX : CXT} {n : Nat} {C f : Addr} {fd : FuncData} {ps : List Str} {sp : Sp} {E : XK}
theorem tyB_looks {M : Model} {pins : List (Addr × Obj)} {σ : L2.St} {H : Hp} {s : Shared} {y : V} {u tb : Value} (I : Inv X pins σ H s) (ry : RelV y u) (t : TyB X.K H y tb) : PySem.W.Looks M s.heap (typeOf u) tb := by
  cases t with
  | non => cases (show u = Value.none from ry); exact .of_pure rfl
  | int i => obtain ⟨tk, rfl⟩ := (show ∃ tk, u = Value.int i tk from ry); exact .of_pure rfl
  | bl b => cases (show u = Value.bool b from ry); exact .of_pure rfl
  | str z => obtain ⟨tk, rfl⟩ := (show ∃ tk, u = Value.str z tk from ry); exact .of_pure rfl
  | tup h =>
    cases (show u = Value.ref _ from ry)
    obtain ⟨its, rv, ⟨o, e, c, _⟩, _⟩ := I.tuple h
    exact c ▸ (PySem.W.Looks.ld e).andThen .now
  | ins h =>
    cases (show u = Value.ref _ from ry)
    obtain ⟨mA, J, _⟩ := ins_get I.hok h
    obtain ⟨od, J, _⟩ := J.look
    exact J.type
theorem call_ownV {A : Around} (hr : Room n A) (hA : A.frames = X.A.frames) (F : FnOk X.prog X.w X.K X.mg X.base CX n f fd ps sp) (hb : L2.Binds X.K fd ps []) (hx : Passes CX X E) {pins : List (Addr × Obj)} {σ : L2.St} {H : Hp} {s : Shared} (I : Inv X pins σ H s) {a : Addr} {y : V} {u : Value} (ry : RelV y u) {Q : VK} (h : sp [.ref a, y] H Q E) :
    wpAny (model X.prog X.w) A (call (.ref f) [.ref a, u]) (EP X pins σ Q) X.xe s := by
  have e0 : Env0 X.prog X.w X.K X.mg X.base A X.stack s H := by
    have e := I.env0
    exact ⟨by rw [hA]; exact e.frames, e.mod, e.bs, e.bsz, e.funs, e.frf, e.hok, e.bare⟩
  have hl := F.len _ _ _ _ h
  have r2 : Vals [V.ref a, y] [Value.ref a, u] := .cons rfl (.cons ry .nil)
  refine wpAny_call (codeAny_mono (F.run A X.stack s H ⟨[.ref a, u], []⟩ [.ref a, u] [.ref a, y] _ E hr e0 (by
    have := hb s [.ref a, u] I.kIn (by simpa using hl)
    simpa using this) r2 h) fun r s' hq => ?_)
  cases r with
  | error e => exact hx pins σ H s e s' I hq
  | ok fl =>
    cases fl with
    | ret w => exact I.after hq
    | next => exact False.elim hq
    | brk => exact False.elim hq
    | cont => exact False.elim hq
theorem op_ownEqA (O : OwnC X.K C f) (hr : Room n X.A) (F : FnOk X.prog X.w X.K X.mg X.base CX n f fd ps sp) (hb : L2.Binds X.K fd ps []) (hx : Passes CX X E) : OpR X (compareOp .Eq) (rOwnA X.K C sp E) := by
  intro pins s σ H x y v u Q I rx ry h
  obtain ⟨a, dx, fs, tb, rfl, ha, ty, hn, hp⟩ := h
  cases rx
  obtain ⟨mA, J, _⟩ := ins_get I.hok ha
  obtain ⟨od, J, _⟩ := J.look
  obtain ⟨m, hF⟩ := I.fr
  show wpAny (model X.prog X.w) X.A (richCompare .Eq (.ref a) u) (EP X pins σ Q) X.xe s
  refine PySem.W.cmp_K (op := .Eq) (tb := tb) hr.units0 hF I.ok.mod.kin J (tyB_looks I ry ty) hn O.eq O.fn ?_
  refine wpAny_mono (call_ownV hr rfl F hb hx I ry hp) (fun r s' q => ?_) fun _ _ x => x
  obtain ⟨z, H', I', rz, k, ez, q⟩ := q
  subst ez
  cases rz
  exact ⟨.bl k, H', I', rfl, by simpa using q⟩
theorem op_ownEqAK {K : PySem.W.Frag} (O : OwnC X.K C f) (hr : Room n X.A) (F : FnOk X.prog X.w X.K X.mg X.base CX n f fd ps sp) (hb : L2.Binds X.K fd ps []) (hx : Passes CX X E) (h : X.K = K := by rfl) : OpR X (compareOp .Eq) (rOwnA K C sp E) := h ▸ op_ownEqA O hr F hb hx
end
end RwT
namespace RW
open PySem PySem.Spec PyProof.Rows L2
/-- what is known of the kinds on the right -/
structure NotSub (K : PySem.W.Frag) (C : Addr) : Prop where
  non : PySem.W.notFirst K C (.type "NoneType") = true
  int : PySem.W.notFirst K C (.type "int") = true
  tup : PySem.W.notFirst K C (.type "tuple") = true
  self : PySem.W.notFirst K C (.ref C) = true
theorem kt_of {K : PySem.W.Frag} {C : Addr} {N : String} (h1 : PySem.W.isClsIn K C = true) (h2 : PySem.W.typeIn K (.ref C) = some (.type "type")) (h3 : PySem.W.subIn K (.type N) (.ref C) = some false) : PySem.W.kitOne K (.type N) (.ref C) = some false := by
  unfold PySem.W.kitOne
  rw [if_neg (by simp)]
  show (if ((PySem.W.clsIn K C).isSome && PySem.W.typeIn K (.ref C) == some (.type "type")) = true then _ else _) = _
  have h4 : (PySem.W.clsIn K C).isSome = true := h1
  rw [h4, h2, if_pos (by simp), h3]
inductive RightD (C : Addr) : Dat → Prop where
  | non : RightD C .non
  | int (i : Int) : RightD C (.int i)
  | tup (ds : List Dat) : RightD C (.tup ds)
  | ins (fs : List (Str × Dat)) : RightD C (.ins C fs)
theorem o_ownA {K : PySem.W.Frag} {C : Addr} {G : List Sl → List Dat → Dat → List Dat → Prop} {E : XK} {k : Bool} {S : List Dat} {fs : List (Str × Dat)} {d : Dat} (N : NotSub K C) (hd : RightD C d) (hg : G [.d (.ins C fs), .d d] S (.bl k) S) :
    Op2 K (RwT.rOwnA K C (SpD K G) E) (.d (.ins C fs)) (.d d) S (.bl k) := fun B H as v w c r1 r2 Q q => by
  cases r1 with
  | ins h1 q1 =>
    have fin : ∀ tb, RwT.TyB K H w tb → PySem.W.notFirst K C tb = true → RwT.rOwnA K C (SpD K G) E (.ref _) w H Q := fun tb ty hn =>
      ⟨_, _, _, tb, rfl, c.ex _ _ h1, ty, hn, B, as, S, [.d (.ins C fs), .d d], _, S, c, .cons (Rep.ins h1 q1 : Rep K B _ (.ins C fs)) (.cons r2 .nil), hg, fun v B' H' c' e' r' => by cases r'; exact ⟨k, rfl, q _ B' H' c' e' (.bl _)⟩⟩
    cases hd with
    | non => cases r2; exact fin _ .non N.non
    | int i => cases r2; exact fin _ (.int i) N.int
    | tup ds => cases r2 with
      | tup h2 _ => exact fin _ (.tup (Evl.ex_t c.ex h2)) N.tup
    | ins gs => cases r2 with
      | ins h2 _ => exact fin _ (.ins (c.ex _ _ h2)) N.self
end RW

set_option Elab.async false
set_option linter.all false
set_option maxRecDepth 100000
set_option maxHeartbeats 4000000
namespace RW
open PySem PySem.Spec PyProof.Rows L2 StX
theorem RepSs.mapd {K : PySem.W.Frag} {B : Hp} {as : List Addr} : ∀ {vs : List V} {ds : List Dat}, Reps K B vs ds → RepSs K B as vs (ds.map Sl.d)
  | _, _, .nil => .nil
  | _, _, .cons h r => .cons h (RepSs.mapd r)
/-- *xs in a display, xs a tuple -/
theorem ea_star {K : PySem.W.Frag} {te : TE} {tA : TA} {env : Env1} {S S1 S2 : List Dat} {ds : List Dat} {xs : List Sl} (h : Ev K te env S (.d (.tup ds)) S1) (hr : EvA K tA env S1 xs S2) : EvA K (tStar K te tA) env S (ds.map Sl.d ++ xs) S2 := fun B H as σ c g Q q =>
  h B H as σ c g _ fun v B1 H1 c1 e1 r1 => by
    cases r1 with
    | tup h1 q1 => exact ⟨_, _, rfl, .inl (Evl.ex_t c1.ex h1), hr B1 H1 as σ c1 (g.mono e1.ex) _ fun vs B2 H2 c2 e2 r2 => q _ B2 H2 c2 (e1.trans e2) ((RepSs.mapd (q1.mono e2.ex)).append r2)⟩
end RW

set_option Elab.async false
set_option linter.all false
set_option maxRecDepth 100000
set_option maxHeartbeats 4000000
namespace RW
open PySem PySem.Spec PyProof.Rows L2
open Evl (Ex)
section
variable {K : PySem.W.Frag} {n : Nat} {te ta tb tc to ti tv : TE} {env env' : Env1} {S S1 S2 S3 : List Dat} {x y z : Sl} {d e : Dat} {ds es : List Dat} {P P' : Post} {t u : TS}
  {B B0 B1 B2 B' H H0 H1 H2 H' : Hp} {as as0 as1 : List Addr} {D : Ends} {σ : L2.St} {j k : Nat}
/-- (y, xs) with xs a new list that will be changed -/
theorem sp_pairVC (hv : Ev K ta env S y S1) (h : EvN K tb env S1 ds S2) (q : SP K n u ((env.set j (some y)).set k (some (.c S2.length))) (S2 ++ [.lst ds]) P) :
    SP K n (tSeq (tAsg (tTup (tCons ta (tCons tb tNil))) (gTup K 2 (gCons (gName j) (gCons (gName k) gNil)))) u) env S P := fun B0 H0 as0 Bk B H as σ hl f c g D m =>
  hv B H as σ c g _ fun w B1 H1 c1 e1 r1 => h B1 H1 as σ c1 (g.mono e1.ex) _ fun p B2 H2 vs c2 e2 hp hb h2 r2 => ⟨by show 2 ≤ sizeLine; decide, fun t ht => by
    have hpa : p ∉ as := hp.1
    have c3 := c2.new (o := .tup [w, .ref p]) ht
    have e3 := Evo.new (o := .tup [w, .ref p]) c2 ht
    have e03 := (e1.trans e2).trans e3
    have npt : p ≠ t := by rintro rfl; rw [ht] at h2; cases h2
    refine ⟨t, _, rfl, Evl.st_of upd_same, rfl, _, _, rfl, _, _, rfl, rfl, ?_⟩
    refine q B0 H0 as0 Bk _ _ (as ++ [p]) _ hl ((f.step e03).push (f.evo.oldN (e1.oldN hp.2))) (c3.push (by rw [upd_ne npt]; exact hb) hpa (.ofL (by rw [upd_ne npt]; exact h2) (r2.mono e3.ex))) ((((g.mono e03.ex).grow).set j (((r1.mono e2.ex).mono e3.ex).grow)).set (s := .c S2.length) k ?_) D m
    exact ⟨p, by rw [← c2.len]; simp, rfl⟩⟩
/-- xs[i] = e, last of its block -/
theorem sp_setitem1 {j : Nat} {iv : Int} (h : Ev K te env S (.d d) S1) (ho : Ev K to env S1 (.c k) S2) (hi : Ev K ti env S2 (.d (.int iv)) S3) (hs : S3[k]? = some (.lst ds)) (hj : ixN ds.length iv = some j) (q : P.nx env (S3.set k (.lst (ds.set j d)))) :
    SP K n (tAsg te (gSub to ti rSetL)) env S P := fun B0 H0 as0 Bk B H as σ hl f c g D m =>
  h B H as σ c g _ fun v B1 H1 c1 e1 r1 => ho B1 H1 as σ c1 (g.mono e1.ex) _ fun w B2 H2 c2 e2 r2 => hi B2 H2 as σ c2 (g.mono (e1.trans e2).ex) _ fun w3 B3 H3 c3 e3 r3 => by
    obtain ⟨p, hp, rfl⟩ := r2
    cases r3
    obtain ⟨vs, hv, rv⟩ := (c3.cells k p _ hp hs).2.lst
    have e03 := ((e1.trans e2).trans e3).trans (Evo.setc (o := .lst (vs.set j v)) (List.mem_of_getElem? hp) hv (fun _ z => nomatch z))
    exact ⟨p, vs, iv, j, rfl, rfl, hv, by rw [rv.length]; exact hj, m.nx _ _ B3 _ as σ (f.step e03) (c3.setc hp (show CellO K B3 (.lst _) (.lst _) from Reps.set j (Rep.mono (e2.trans e3).ex r1) rv)) (g.mono e03.ex) q⟩
theorem reps_ints : ∀ ns : List Int, Reps K B (ns.map V.int) (ns.map Dat.int)
  | [] => .nil
  | i :: r => .cons (.int i) (reps_ints r)
theorem reps_rg {a b : Int} : Reps K B (rgV a b) ((List.range (b - a).toNat).map fun i => Dat.int (a + (i : Nat))) := by
  have := reps_ints (K := K) (B := B) ((List.range (b - a).toNat).map fun i => a + ((i : Nat) : Int))
  rw [List.map_map, List.map_map] at this
  exact this
/-- list(range(m)) -/
theorem en_rg1 {m : Nat} (h : Ev K te env S (.d (.int m)) S1) (hm : m ≤ 1000) : EvN K (tLstRg (tRg1 te)) env S ((List.range m).map fun i => Dat.int (i : Nat)) S1 := fun B H as σ c g Q q =>
  h B H as σ c g _ fun v B1 H1 c1 e1 r1 => by
    cases r1
    have e : ((List.range m).map fun i => Dat.int (i : Nat)) = (List.range ((m : Int) - 0).toNat).map fun i => Dat.int (0 + (i : Nat)) := by
      rw [show ((m : Int) - 0).toNat = m by omega]
      exact List.map_congr_left fun i _ => by rw [Int.zero_add]
    rw [e] at q
    exact ⟨_, rfl, RgOk.of_le (by omega) (by omega) (by omega) (by omega), fun p hp => evn_new c c1 e1 hp reps_rg q⟩
/-- list(range(a, a + k)) -/
theorem en_rg2 {a k : Nat} {b : Int} (h : Ev K ta env S (.d (.int a)) S1) (hb : Ev K tb env S1 (.d (.int b)) S2) (e : b = (a : Int) + (k : Nat)) (hm : a + k ≤ 1000) : EvN K (tLstRg (tRg2 ta tb)) env S ((List.range' a k).map fun i => Dat.int (i : Nat)) S2 := fun B H as σ c g Q q =>
  h B H as σ c g _ fun v B1 H1 c1 e1 r1 => hb B1 H1 as σ c1 (g.mono e1.ex) _ fun w B2 H2 c2 e2 r2 => by
    cases r1
    cases r2
    have e : ((List.range' a k).map fun i => Dat.int (i : Nat)) = (List.range (b - (a : Int)).toNat).map fun i => Dat.int ((a : Int) + (i : Nat)) := by
      rw [show (b - (a : Int)).toNat = k by omega, List.range'_eq_map_range, List.map_map]
      exact List.map_congr_left fun i _ => by show Dat.int ((a + i : Nat) : Int) = _; rw [Int.natCast_add]
    rw [e] at q
    exact ⟨_, _, rfl, rfl, RgOk.of_le (by omega) (by omega) (by omega) (by omega), fun p hp => evn_new c c2 (e1.trans e2) hp reps_rg q⟩
end
end RW

set_option Elab.async false
set_option linter.all false
set_option maxRecDepth 100000
set_option maxHeartbeats 4000000
namespace RwS
open PySem PySem.Spec PyProof.Rows L2
/-! ### rows of integers, in Python's order -/
def lx : List Int → List Int → Bool
  | a :: r, b :: q => decide (a < b) || (decide (a = b) && lx r q)
  | _, _ => false
theorem lx_cons {a b : Int} {r q : List Int} : lx (a :: r) (b :: q) = true ↔ a < b ∨ (a = b ∧ lx r q = true) := by
  show (decide (a < b) || (decide (a = b) && lx r q)) = true ↔ _
  simp
theorem lx_eq {p : Int} {r q : List Int} : lx (p :: r) (p :: q) = lx r q := by
  show (decide (p < p) || (decide (p = p) && lx r q)) = _
  simp
theorem lx_ne {p u : Int} {r q : List Int} (e : p ≠ u) : lx (p :: r) (u :: q) = decide (p < u) := by
  show (decide (p < u) || (decide (p = u) && lx r q)) = _
  simp [e]
theorem lx_irr : ∀ r : List Int, lx r r = false
  | [] => rfl
  | a :: r => by
    cases h : lx (a :: r) (a :: r) with
    | false => rfl
    | true =>
      rcases lx_cons.mp h with z | ⟨_, z⟩
      · omega
      · rw [lx_irr r] at z; cases z
theorem lx_trans : ∀ {x y z : List Int}, lx x y = true → lx y z = true → lx x z = true
  | a :: r, b :: q, c :: t, h1, h2 => by
    rcases lx_cons.mp h1 with p | ⟨p, p'⟩ <;> rcases lx_cons.mp h2 with q' | ⟨q', q''⟩
    · exact lx_cons.mpr (.inl (by omega))
    · exact lx_cons.mpr (.inl (by omega))
    · exact lx_cons.mpr (.inl (by omega))
    · exact lx_cons.mpr (.inr ⟨by omega, lx_trans p' q''⟩)
  | [], _, _, h1, _ => by simp [lx] at h1
  | _ :: _, [], _, h1, _ => by simp [lx] at h1
  | _ :: _, _ :: _, [], _, h2 => by simp [lx] at h2
theorem lx_tri : ∀ {x y : List Int}, x.length = y.length → lx x y = true ∨ x = y ∨ lx y x = true
  | [], [], _ => .inr (.inl rfl)
  | a :: r, b :: q, h => by
    rcases Int.lt_trichotomy a b with z | z | z
    · exact .inl (lx_cons.mpr (.inl z))
    · subst z
      rcases lx_tri (x := r) (y := q) (by simpa using h) with w | w | w
      · exact .inl (lx_cons.mpr (.inr ⟨rfl, w⟩))
      · exact .inr (.inl (by rw [w]))
      · exact .inr (.inr (lx_cons.mpr (.inr ⟨rfl, w⟩)))
    · exact .inr (.inr (lx_cons.mpr (.inl z)))
  | [], _ :: _, h => by simp at h
  | _ :: _, [], h => by simp at h
def rk (L : List (List Int)) (x : List Int) : Nat := (L.filter fun y => lx y x).length
theorem filt_le {α : Type} (p q : α → Bool) : ∀ L : List α, (∀ y ∈ L, p y = true → q y = true) → (L.filter p).length ≤ (L.filter q).length
  | [], _ => Nat.le_refl _
  | a :: L, h => by
    have ih := filt_le p q L fun y hy => h y (List.mem_cons_of_mem _ hy)
    rw [List.filter_cons, List.filter_cons]
    cases hp : p a with
    | true => rw [h a List.mem_cons_self hp]; simpa using ih
    | false =>
      cases q a with
      | true => simp; omega
      | false => simpa using ih
theorem filt_lt {α : Type} (p q : α → Bool) : ∀ L : List α, (∀ y ∈ L, p y = true → q y = true) → (∃ y ∈ L, p y = false ∧ q y = true) → (L.filter p).length < (L.filter q).length
  | [], _, h => by obtain ⟨y, hy, _⟩ := h; cases hy
  | a :: L, h, he => by
    have hL : ∀ y ∈ L, p y = true → q y = true := fun y hy => h y (List.mem_cons_of_mem _ hy)
    have le := filt_le p q L hL
    rw [List.filter_cons, List.filter_cons]
    obtain ⟨y, hy, h1, h2⟩ := he
    rcases List.mem_cons.mp hy with rfl | hy
    · rw [h1, h2]; simp; omega
    · have ih := filt_lt p q L hL ⟨y, hy, h1, h2⟩
      cases hp : p a with
      | true => rw [h a List.mem_cons_self hp]; simpa using ih
      | false =>
        cases q a with
        | true => simp; omega
        | false => simpa using ih
theorem rk_lt {L : List (List Int)} {x y : List Int} (hx : x ∈ L) (hl : x.length = y.length) : lx x y = true ↔ rk L x < rk L y := by
  constructor
  · intro h
    exact filt_lt _ _ L (fun z _ hz => lx_trans hz h) ⟨x, hx, lx_irr x, h⟩
  · intro h
    rcases lx_tri hl with z | z | z
    · exact z
    · subst z; omega
    · have := filt_le (fun w => lx w y) (fun w => lx w x) L fun w _ hw => lx_trans hw z
      unfold rk at h
      omega
section
variable {prog : Program} {w : World} {A : Around} {E : Value → Shared → Prop} {s : Shared}
theorem lex_go {Q : Bool → Shared → Prop} {b : Bool} : ∀ {xs ys : List Value} {ns ms : List Int} (i : Nat), IntsAre xs ns → IntsAre ys ms → ns.length = ms.length → Q (lx ns ms) s → PySem.W.KatLex prog w A b false Q (xs.zip ys) i s
  | _, _, _, _, i, .nil, .nil, _, h => PySem.W.kat_nil h
  | _, _, _, _, i, .cons p t hx, .cons q u hy, hl, h => by
    refine PySem.W.kat_cons (wpAny_eqBool_int ?_)
    by_cases e : p = q
    · subst e
      rw [beq_self_eq_true]
      refine PySem.W.kat_yes (lex_go (i + 1) hx hy (by simpa using hl) ?_)
      rw [lx_eq] at h
      exact h
    · rw [show (p == q) = false from beq_eq_false_iff_ne.mpr e]
      refine PySem.W.kat_no (TS.oneLt_ints _ ?_)
      rw [lx_ne e] at h
      exact h
  | _, _, _, _, _, .nil, .cons _ _ _, hl, _ => by simp at hl
  | _, _, _, _, _, .cons _ _ _, .nil, hl, _ => by simp at hl
def Tups (h : Heap) (d : Nat) (vs : List Value) : Prop := ∀ v ∈ vs, ∃ ns, TS.TupInts h v ns ∧ ns.length = d
theorem Tups.keeps {h h' : Heap} {d : Nat} {vs : List Value} (x : Tups h d vs) (k : ∀ b o, h.get? b = some o → o.cls = .type "tuple" → h'.get? b = some o) : Tups h' d vs := fun v hv => by
  obtain ⟨ns, t, l⟩ := x v hv
  exact ⟨ns, t.keeps k, l⟩
theorem firsts {h : Heap} {d : Nat} (hd : 1 ≤ d) : ∀ vs : List Value, Tups h d vs → ∃ fs, PySem.W.KatTups h vs fs ∧ fs.length = vs.length ∧ ∀ f ∈ fs, ∃ n t, f = Value.int n t
  | [], _ => ⟨[], PySem.W.KatTups.nil, rfl, fun f hf => by cases hf⟩
  | v :: vs, x => by
    obtain ⟨fs, k, l, z⟩ := firsts hd vs fun u hu => x u (List.mem_cons_of_mem _ hu)
    obtain ⟨ns, ⟨a, xs, rfl, ⟨o, ho, hc, n, hdt⟩, i⟩, hl⟩ := x v List.mem_cons_self
    cases hx : xs.toList with
    | nil => rw [hx] at i; cases i; simp at hl; omega
    | cons u us =>
      rw [hx] at i
      cases i with
      | cons m t i =>
        refine ⟨.int m t :: fs, ?_, by simp [l], fun f hf => ?_⟩
        · exact ⟨⟨a, o, xs, n, rfl, ho, hc, hdt, by rw [← Array.getElem?_toList, hx]; rfl⟩, k⟩
        · rcases List.mem_cons.mp hf with rfl | hf
          · exact ⟨m, t, rfl⟩
          · exact z f hf
/-- what sorting is told of a list of tuples of d integers -/
theorem kind_go {d : Nat} {vs : List Value} (hd : 1 ≤ d) (h2 : 2 ≤ vs.length) (x : Tups s.heap d vs) (r : Value → Int)
    (hr : ∀ u ∈ vs, ∀ v ∈ vs, ∀ ns ms, TS.TupInts s.heap u ns → TS.TupInts s.heap v ms → (lx ns ms = true ↔ r u < r v))
    (Q : SortKind → Shared → Prop) (h : ∀ κ, TS.Cmp prog w A s κ (pairsOf vs) r → Q κ s) : wpAny (model prog w) A (keyKind' vs.toArray) Q E s := by
  obtain ⟨fs, k, hl, hi⟩ := firsts hd vs x
  refine PySem.W.kat_kind (T := .type "int") k (by omega) (fun f hf => ?_) rfl (h _ fun p q hp hq Q' E' hQ => ?_)
  · obtain ⟨n, t, rfl⟩ := hi f hf
    exact .of_pure rfl
  · rw [pairsOf_toList] at hp hq
    have mp := (mem_zip_self hp).2
    have mq := (mem_zip_self hq).2
    obtain ⟨ns, tp, lp⟩ := x p.1 mp
    obtain ⟨ms, tq, lq⟩ := x q.1 mq
    have hlt : decide (r p.1 < r q.1) = lx ns ms := by
      have := hr p.1 mp q.1 mq ns ms tp tq
      cases e : lx ns ms with
      | true => exact decide_eq_true (this.mp e)
      | false => exact decide_eq_false fun z => by rw [this.mpr z] at e; cases e
    rw [hlt] at hQ
    obtain ⟨a, xs, e1, ⟨o, ho, hc, n, hdt⟩, i1⟩ := tp
    obtain ⟨b, ys, e2, ⟨o', ho', hc', n', hdt'⟩, i2⟩ := tq
    rw [e1, e2]
    have hs : xs.size = ys.size := by
      have := i1.length
      have := i2.length
      simp at *
      omega
    refine PySem.W.kat_lt ho hdt ho' hdt' ?_
    rw [hs, decide_eq_false (Nat.lt_irrefl _)]
    exact lex_go 0 i1 i2 (by omega) hQ
/-- xs.sort() -/
theorem sort_go {a : Addr} {vs : List Value} {n d : Nat} {P : Fin → Shared → Prop} (ho : s.heap.get? a = some (seqObj "list" vs.toArray n)) (h64 : vs.length < 64) (hd : 1 ≤ d) (x : Tups s.heap d vs)
    (h : ∀ out : Array Value, out.toList.Perm vs → (∃ L : Value → List Int, (∀ v ∈ vs, TS.TupInts s.heap v (L v)) ∧ out.toList.Pairwise fun u v => lx (L v) (L u) = false) →
      P (.done (.ret .none)) { s with heap := sortedHeap s.heap a vs out }) : wpAny (model prog w) A (Builtin.«list.sort» ⟨[.ref a], []⟩) P E s := by
  have keep : ∀ b o, s.heap.get? b = some o → o.cls = .type "tuple" → (TS.midHeap s.heap a vs).get? b = some o := fun b o e hc => TS.midHeap_old (by
    rintro rfl
    rw [ho] at e
    cases e
    exact absurd (Value.type.inj hc) (by decide)) e
  have hT : ∀ v ∈ vs, TS.TupInts s.heap v (TS.intsOf s.heap v) ∧ (TS.intsOf s.heap v).length = d := fun v hv => by
    obtain ⟨ns, t, l⟩ := x v hv
    rw [t.ints]
    exact ⟨t, l⟩
  refine SK.plain_sort (r := fun v => (rk (vs.map (TS.intsOf s.heap)) (TS.intsOf s.heap v) : Int)) ho h64 (fun h2 Q hQ => kind_go hd h2 (x.keeps keep) _ (fun u hu v hv ns ms tu tv => ?_) Q hQ) fun ps out e1 e2 e3 => ?_
  · have e1 : TS.intsOf s.heap u = ns := by
      have := ((hT u hu).1.keeps keep).ints
      rw [← this, tu.ints]
    have e2 : TS.intsOf s.heap v = ms := by
      have := ((hT v hv).1.keeps keep).ints
      rw [← this, tv.ints]
    rw [← e1, ← e2, rk_lt (List.mem_map.mpr ⟨u, hu, rfl⟩) (by rw [(hT u hu).2, (hT v hv).2])]
    exact (Int.ofNat_lt).symm
  · obtain ⟨p, o⟩ := TS.out_rank (r := fun v => (rk (vs.map (TS.intsOf s.heap)) (TS.intsOf s.heap v) : Int)) e1 e2 e3
    refine h out p ⟨TS.intsOf s.heap, fun v hv => (hT v hv).1, o.imp_of_mem fun {u v} hu hv le => ?_⟩
    cases e : lx (TS.intsOf s.heap v) (TS.intsOf s.heap u) with
    | false => rfl
    | true =>
      have hu' := p.mem_iff.mp hu
      have hv' := p.mem_iff.mp hv
      have := (rk_lt (L := vs.map (TS.intsOf s.heap)) (List.mem_map.mpr ⟨v, hv', rfl⟩) (by rw [(hT u hu').2, (hT v hv').2])).mp e
      omega
end
end RwS

set_option Elab.async false
set_option linter.all false
set_option maxRecDepth 100000
set_option maxHeartbeats 4000000
namespace RwS
open PySem PySem.Spec PyProof.Rows L2
theorem ints_vals : ∀ {its : List Value} {ns : List Int}, Vals (ns.map V.int) its → IntsAre its ns
  | _, [], .nil => .nil
  | _, n :: ns, .cons r rr => by
    obtain ⟨t, rfl⟩ := r
    exact .cons n t (ints_vals rr)
def rSortedDT : List V → Hp → VK → Prop := fun vs H Q => ∃ (a : Addr) (kvs : List (List L2.Key × V)) (ks : List (List Int)) (d : Nat), vs = [V.ref a] ∧ H a = some (.dT kvs) ∧ kvs.map (·.1) = ks.map (fun k => k.map Sum.inl) ∧ 1 ≤ d ∧ (∀ k ∈ ks, k.length = d) ∧ ks.length < 64 ∧
  ∀ (L : List (Addr × List Int)) (p : Addr), (∀ q ∈ L, H q.1 = some (.tup (q.2.map V.int))) → (L.map (·.2)).Perm ks → L.Pairwise (fun x y => lx y.2 x.2 = false) → H p = none → Q (.ref p) (upd H p (.lst (L.map fun q => .ref q.1)))
theorem zip_keys {γ : Type} {R : (List L2.Key × V) → γ → Prop} (g : γ → Addr) {H : Hp} (hR : ∀ p q, R p q → H (g q) = some (.tup (p.1.map kV))) : ∀ {kvs : List (List L2.Key × V)} {xs : List γ} {ks : List (List Int)}, Paired R kvs xs → kvs.map (·.1) = ks.map (fun k => k.map Sum.inl) →
    ∃ L : List (Addr × List Int), L.map (·.1) = xs.map g ∧ L.map (·.2) = ks ∧ ∀ q ∈ L, H q.1 = some (.tup (q.2.map V.int))
  | _, _, [], .nil, _ => ⟨[], rfl, rfl, fun q hq => by cases hq⟩
  | _, _, _ :: _, .nil, e => by simp at e
  | _, _, [], .cons _ _, e => by simp at e
  | p :: kvs, x :: xs, k :: ks, .cons h hr, e => by
    have e1 : p.1 = k.map Sum.inl := (List.cons.inj e).1
    have e2 : kvs.map (·.1) = ks.map (fun k => k.map Sum.inl) := (List.cons.inj e).2
    obtain ⟨L, l1, l2, l3⟩ := zip_keys g hR hr e2
    refine ⟨(g x, k) :: L, by simp [l1], by simp [l2], fun q hq => ?_⟩
    rcases List.mem_cons.mp hq with rfl | hq
    · have := hR _ _ h
      rw [e1, List.map_map] at this
      exact this
    · exact l3 q hq
theorem perm_lift : ∀ {out : List Value} {L : List (Addr × List Int)}, out.Perm (L.map fun q => Value.ref q.1) → ∃ L' : List (Addr × List Int), out = L'.map (fun q => Value.ref q.1) ∧ L'.Perm L := fun {out L} h => by
  generalize e : (L.map fun q => Value.ref q.1) = M at h
  induction h generalizing L with
  | nil => exact ⟨[], rfl, by rw [List.map_eq_nil_iff.mp e]⟩
  | cons x h ih =>
    cases L with
    | nil => cases e
    | cons q L =>
      obtain ⟨e1, e2⟩ := List.cons.inj e
      obtain ⟨L', e3, e4⟩ := ih e2
      exact ⟨q :: L', by rw [← e1, e3]; rfl, e4.cons q⟩
  | swap x y l =>
    cases L with
    | nil => cases e
    | cons q L =>
      cases L with
      | nil => cases e
      | cons r L =>
        obtain ⟨e1, e2⟩ := List.cons.inj e
        obtain ⟨e2, e3⟩ := List.cons.inj e2
        exact ⟨r :: q :: L, by rw [← e1, ← e2, ← e3]; rfl, .swap q r L⟩
  | trans h1 h2 ih1 ih2 =>
    obtain ⟨L2, e1, e2⟩ := ih2 e
    obtain ⟨L1, e3, e4⟩ := ih1 e1.symm
    exact ⟨L1, e3, e4.trans e2⟩
theorem cr_sortedDT {X : Cx} (hc : X.calm = true) : CallR X (.builtin "sorted") rSortedDT := by
  intro pins s σ H vs us Q I r h
  obtain ⟨a, kvs, ks, d, rfl, ha, hks, hd, hlen, h64, q⟩ := h
  rw [Vals.ref1 r]
  obtain ⟨z, hs, xs, pr, o, es, ep, ho, hx, hdt, he, hn⟩ := I.hok a _ ha
  obtain ⟨L, l1, l2, l3⟩ := zip_keys (fun x => x.2.1) (H := H) (fun p x hp => hp.2.1) pr hks
  have hsz : es.size = xs.length := size_of_entries he
  have hLl : L.length = xs.length := by have := congrArg List.length l1; simpa using this
  have hLk : L.length = ks.length := by have := congrArg List.length l2; simpa using this
  refine Calls.call_function_entry kind_sorted plain_sorted entry_sorted (args_sorted1 (.ref a)) ?_
  refine id (wpAny_bind (wpAny_pure (wpAny_bind (PySem.W.kdu_collect (kdl_raw hs hx hdt) (I.ok.hd hc) ho (by rw [hsz, ← hLl, hLk, sizeLine_eq]; omega) fun h' tk acc hk hacc => ?_))))
  have hacc2 : acc.toList = L.map fun q => Value.ref q.1 := by
    have e1 : (L.map fun q => Value.ref q.1) = (xs.map fun x => x.2.1).map Value.ref := by
      rw [← l1, List.map_map]; rfl
    rw [e1, List.map_map]
    refine List.ext_getElem? fun j => ?_
    obtain ⟨ha1, ha2⟩ := hacc
    cases e : acc[j]? with
    | none =>
      have : acc.size ≤ j := Array.getElem?_eq_none_iff.mp e
      rw [Array.getElem?_toList, e, List.getElem?_eq_none]
      rw [List.length_map]; omega
    | some v =>
      obtain ⟨en, h1, h2⟩ := ha2 j v e
      rw [Array.getElem?_toList, e]
      have h3 : es.toList[j]? = some en := by rw [Array.getElem?_toList]; exact h1
      rw [he, List.getElem?_map] at h3
      rw [List.getElem?_map]
      cases e4 : xs[j]? with
      | none => rw [e4] at h3; cases h3
      | some x =>
        rw [e4] at h3
        cases h3
        rw [h2]; rfl
  have I1 : Inv X pins σ H { s with heap := h', toks := tk } := I.kept (t' := tk) hk
  have tups : Tups h' d acc.toList ∧ ∀ q ∈ L, TS.TupInts h' (.ref q.1) q.2 := by
    have key : ∀ q ∈ L, TS.TupInts h' (.ref q.1) q.2 := fun q hq => by
      obtain ⟨_, its, rv, p⟩ := I1.hok q.1 _ (l3 q hq)
      exact ⟨q.1, its.toArray, rfl, p, ints_vals rv⟩
    refine ⟨fun v hv => ?_, key⟩
    rw [hacc2] at hv
    obtain ⟨q, hq, rfl⟩ := List.mem_map.mp hv
    exact ⟨q.2, key q hq, hlen _ (by rw [← l2]; exact List.mem_map.mpr ⟨q, hq, rfl⟩)⟩
  have hal : acc.toList.length = L.length := by rw [hacc2, List.length_map]
  refine wpAny_bind (wpAny_newList ?_ (by rw [hal, hLk, sizeLine_eq]; omega))
  have hoL : (h'.push { cls := Value.type "list", data := Data.seq acc.toList.toArray }).get? h'.objs.size = some (seqObj "list" acc.toList.toArray 0) := Heap.get?_push_size _ rfl
  have hp1 : ∀ b o, h'.get? b = some o → (h'.push { cls := Value.type "list", data := Data.seq acc.toList.toArray }).get? b = some o := fun b o e => Heap.get?_push_of_some _ e
  refine wpAny_bind (wpAny_holding (wpAny_call_entry slot_list_sort ⟨_, hoL, rfl⟩ entry_list_sort (sort_go hoL (by rw [hal, hLk]; exact h64) hd (tups.1.keeps fun b o e _ => hp1 b o e) fun out pm po => ⟨.none, rfl, wpAny_pure ⟨.ref h'.objs.size, rfl, ?_⟩⟩) (args_list_sort (.ref h'.objs.size))))
  obtain ⟨L', e1, e2⟩ := perm_lift (hacc2 ▸ pm)
  have hn1 : H h'.objs.size = none := I1.hok.fresh (Nat.le_refl _)
  obtain ⟨ep', hg⟩ := sortedHeap_at (out := out) hoL
  have k : ∀ b o, h'.get? b = some o → (sortedHeap (h'.push { cls := Value.type "list", data := Data.seq acc.toList.toArray }) h'.objs.size acc.toList out).get? b = some o := fun b o e => by
    have hb := Heap.lt_size e
    rw [sortedHeap_old (Nat.ne_of_lt hb) (Nat.lt_of_lt_of_le hb (by rw [PyProof.Rows.size_push']; exact Nat.le_succ _))]
    exact hp1 b o e
  have hlen' : (L'.map fun q => V.ref q.1).length ≤ sizeLine := by rw [List.length_map, e2.length_eq, hLk, sizeLine_eq]; omega
  have hv : Vals (L'.map fun q => V.ref q.1) out.toList := by rw [e1]; exact vals_of_refs L'
  have J := Inv.call (ch := []) (d' := s.drawn) (t' := tk) I1 (Un.laid k (Nat.le_refl _) hn1) (HOk.laid (o := .lst (L'.map fun q => V.ref q.1)) I1.hok k (Nat.le_refl _) ⟨hlen', out.toList, ep', hv, hg⟩) I1.bare (fun x z => by cases z)
  refine ⟨.ref h'.objs.size, _, J, rfl, q L' _ (fun r hr => l3 r (e2.mem_iff.mp hr)) (by rw [← l2]; exact e2.map _) ?_ hn1⟩
  obtain ⟨g, g1, g2⟩ := po
  rw [e1] at g2
  refine (List.pairwise_map.mp g2).imp_of_mem fun {x y} hx hy hxy => ?_
  have gx : ∀ z ∈ L', g (.ref z.1) = z.2 := fun z hz => by
    have hz' := e2.mem_iff.mp hz
    have t1 := g1 (.ref z.1) (by rw [hacc2]; exact List.mem_map.mpr ⟨z, hz', rfl⟩)
    have t2 := (tups.2 z hz').keeps (h' := h'.push { cls := Value.type "list", data := Data.seq acc.toList.toArray }) fun b o e _ => hp1 b o e
    exact t1.ints.symm.trans t2.ints
  rw [gx x hx, gx y hy] at hxy
  exact hxy
end RwS

set_option Elab.async false
set_option linter.all false
set_option maxRecDepth 100000
set_option maxHeartbeats 4000000
namespace RwS
open PySem PySem.Spec PyProof.Rows L2 CwR
/-! ### where some object has been made before: text.replace -/
def PTt (X : Cx) (e : Expr) (t : TT) : Prop := ∀ (pins : List (Addr × Obj)) (s : Shared) (σ : L2.St) (H : Hp) (Q : Bool → Hp → Prop), 1 ≤ s.toks → Inv X pins σ H s → t σ H Q → wpAny (model X.prog X.w) X.A (PySem.isTrue e X.env (eval e X.env)) (TP X pins σ Q) X.xe s
def PTg (X : Cx) (e : Expr) (t : TT) : Prop := ∀ (pins : List (Addr × Obj)) (s : Shared) (σ : L2.St) (H : Hp) (Q : Bool → Hp → Prop), Inv X pins σ H s → t σ H Q → wpAny (model X.prog X.w) X.A (PySem.isTrue e X.env (eval e X.env)) (fun b s' => TP X pins σ Q b s' ∧ 1 ≤ s'.toks) X.xe s
def PEg (X : Cx) (e : Expr) (t : TE) : Prop := ∀ (pins : List (Addr × Obj)) (s : Shared) (σ : L2.St) (H : Hp) (Q : VK), Inv X pins σ H s → t σ H Q → wpAny (model X.prog X.w) X.A (eval e X.env) (fun v s' => EP X pins σ Q v s' ∧ 1 ≤ s'.toks) X.xe s
section
variable {X : Cx} {a b e o : Expr} {ta tb : TT} {te to : TE} {pos : Pos}
theorem petT_bm0 {name : Str} {apos cpos : Pos} {T id : String} {r : V → List V → Hp → VK → Prop} (pa : PlainAttrs T) (slot : Slot T name id) (hty : typeOf (.builtin id) = pure (.type "method_descriptor")) (hm : MtR X id r) (ho : PET X o to)
    (hbase : attributeBase o name X.env (eval o X.env) = eval o X.env := by rfl) (hline : (apos.endLine == cpos.line) = true := by rfl) : PET X ((o.Attribute name apos).Call [] [] cpos) (tBM0 X.K T r to) := fun pins s σ H Q h0 I h =>
  wpAny_Call_method0_late hbase hline (thn (ho pins s σ H (fun x H1 => tyV X.K T x H1 ∧ r x [] H1 Q) h0 I h) fun v s1 ⟨x, H1, I1, r1, ty, q1⟩ => by
    obtain ⟨h1, h2⟩ := tyV_is I1 r1 ty
    exact ⟨T, id, pa, slot, hty, h1, h2, Calls.callWith_builtin rfl (PySem.evalArgs_none (hm pins s1 σ H1 x [] v [] Q I1 r1 .nil q1))⟩)
theorem ptT_tru (ha : PET X a te) (he : ∀ whole, PySem.isTrue a X.env whole = (do let v ← whole; standAt a.pos; holding [v] (truthy v)) := by intro _; rfl) : PTt X a (RW.tTru X.K te) := fun pins s σ H Q h0 I h =>
  isTrue_plain (thn (ha pins s σ H (fun x H' => ∃ k, TruV X.K x H' k ∧ Q k H') h0 I h) fun v s1 ⟨x, H1, I1, r1, q1⟩ => tru_ok pins s1 σ H1 x v Q I1 r1 q1) (he _)
theorem ptT_not (ha : PTt X a ta) : PTt X (.UnaryOp .Not a pos) (tNot ta) := fun pins s σ H Q h0 I h => isTrue_not (ha pins s σ H (fun c H1 => Q (!c) H1) h0 I h)
theorem ptT_or (ha : PT X a ta) (hb : PTt X b tb) : PTt X (.BoolOp .Or [a, b] pos) (tOr ta tb) := fun pins s σ H Q h0 I h =>
  isTrue_or (wpAny_mono (wpAny_toks (ha.run pins s σ H _ I h)) (fun c s1 ⟨hk, H1, I1, q1⟩ => by
    cases c with
    | true => exact ⟨H1, I1, q1⟩
    | false =>
      refine isTrue_or (thn (hb pins s1 σ H1 Q (Nat.le_trans h0 hk) I1 q1) fun c s2 z => ?_)
      cases c with
      | true => exact z
      | false => exact isTrue_or_nil z) fun _ _ z => z.2)
/-- len(x), x a text: an integer is made -/
def rLenS : List V → Hp → VK → Prop := fun xs H Q => ∃ z, xs = [V.str z] ∧ z.length ≤ sizeLine ∧ Q (.int z.length) H
theorem call_lenS {X : Cx} : CallR X (.builtin "len") rLenS := call_len_str
theorem peg_len {p : Pos} {tA : TA} (hg : Gl X "len") (hm : X.mg "len" = none) (ha : PA X [e] tA) (hs : starEach [e] X.env = (false, eval e X.env) :: starEach [] X.env := by rfl) (hpl : ((backTo pos (starEach [] X.env)).any fun x => x.1) = false := by rfl) :
    PEg X (.Call (.Name "len" p) [e] [] pos) (tCB rLenS tA) := fun pins s σ H Q I h => by
  refine wpAny_Call_Name_kw (ld_blt I hg hm boot_len (callWith_builtin1 (thn (ha.run pos pins s σ H (fun vs H1 => rLenS vs H1 Q) I h) fun us s1 ⟨vs, H1, I1, r1, z, e1, hz, q1⟩ => ?_) hs hpl) (by decide) (by decide))
  subst e1
  cases r1 with
  | cons r1 rr =>
    cases rr
    obtain ⟨t, rfl⟩ := r1
    exact len_str (by have := line63; omega) ⟨⟨.int z.length, H1, I1.tok _, ⟨_, rfl⟩, q1⟩, by simp⟩
theorem ptg_cmp {op : CmpOp} {r : R2} {ta tb : TE} (ho : OpR X (compareOp op) r) (ha : PEg X a ta) (hb : PE X b tb) (hm : behindInMarks op b = false) : PTg X (.Compare a [op] [b] pos) (tTest (tOp r ta tb)) := fun pins s σ H Q I h =>
  wpAny_isTrue_Compare1 (thn (ha pins s σ H _ I h) fun v s1 ⟨⟨x, H1, I1, r1, q1⟩, h1⟩ =>
    wpAny_mono (wpAny_toks (hb.run pins s1 σ H1 _ I1 q1)) (fun u s2 ⟨k2, y, H2, I2, r2, q2⟩ =>
      wpAny_mono (wpAny_toks (ho pins s2 σ H2 x y v u _ I2 r1 r2 q2)) (fun c s3 ⟨k3, z, H3, I3, r3, k, e, q3⟩ => by
        subst e
        cases (show c = Value.bool k from r3)
        exact wpAny_truthy_bool ⟨⟨H3, I3, q3⟩, Nat.le_trans h1 (Nat.le_trans k2 k3)⟩) fun _ _ z => z.2) fun _ _ z => z.2) hm
/-- the first is false -/
def tOrF (ta tb : TT) : TT := fun σ H Q => ta σ H fun b H1 => b = false ∧ tb σ H1 Q
theorem ptg_or (ha : PT X a ta) (hb : PTg X b tb) : PTg X (.BoolOp .Or [a, b] pos) (tOrF ta tb) := fun pins s σ H Q I h =>
  isTrue_or (thn (ha.run pins s σ H _ I h) fun c s1 ⟨H1, I1, ec, q1⟩ => by
    subst ec
    refine isTrue_or (thn (hb pins s1 σ H1 Q I1 q1) fun c s2 z => ?_)
    cases c with
    | true => exact z
    | false => exact isTrue_or_nil z)
/-- if test: raise; and what follows, with a token known -/
def tGuard (ta : TT) (t2 : TS) : TS := fun D σ H => ta σ H fun b H1 => b = false ∧ t2 D σ H1
def tGuard1 (ta : TT) : TS := fun D σ H => ta σ H fun b H1 => b = false ∧ D.nx σ H1
theorem pss_guard {t2 : TS} {bd : List Stmt} {rest : List Stmt} (ha : PTg X a ta) (hr : PSsT X rest t2) : PSs X (.If a bd [] pos :: rest) (tGuard ta t2) := ⟨fun pins s σ H D I h =>
  wpAny_execs_cons (wpAny_If (thn (ha pins s σ H _ I h) fun c s1 ⟨⟨H1, I1, ec, q1⟩, h1⟩ => by
    subst ec
    exact wpAny_execs_nil (hr pins s1 σ H1 D h1 I1 q1)))⟩
theorem psst_guard {bd : List Stmt} (ha : PTt X a ta) : PSsT X [.If a bd [] pos] (tGuard1 ta) := fun pins s σ H D h0 I h =>
  wpAny_execs_cons (wpAny_If (thn (ha pins s σ H _ h0 I h) fun c s1 ⟨H1, I1, ec, q1⟩ => by
    subst ec
    exact wpAny_execs_nil (wpAny_execs_nil ⟨σ, H1, I1, q1⟩)))
end
end RwS

set_option Elab.async false
set_option linter.all false
set_option maxRecDepth 100000
set_option maxHeartbeats 4000000
namespace RW
open PySem PySem.Spec PyProof.Rows L2
open Evl (Ex)
section
variable {K : PySem.W.Frag} {n : Nat} {te ta tb tc to ti tv : TE} {tt tu : TT} {tA tR : TA} {env env' : Env1} {S S1 S2 S3 : List Dat} {x y z : Sl} {d e : Dat} {ds es : List Dat} {r r' : R2} {P P' : Post} {t u : TS}
  {B B0 B1 B2 B' H H0 H1 H2 H' : Hp} {as as0 as1 : List Addr} {D : Ends} {σ : L2.St} {i k : Nat} {a b c : Bool} {p q : Str}
/-! ### texts -/
theorem cd_lenT (hl : p.length ≤ sizeLine) : CallD K RwS.rLenS [.d (.str p)] S (.int p.length) S := fun B H as vs c r Q q => by
  cases r with
  | cons r1 rr =>
    cases rr; cases r1
    exact ⟨p, rfl, hl, q _ B H c Evo.refl (.int _)⟩
def rIntS : List V → Hp → VK → Prop := fun xs H Q => ∃ a n, xs = [V.str a] ∧ intText? a = some n ∧ a.length ≤ 640 ∧ Q (.int n) H
theorem call_intS {X : Cx} : CallR X (.type "int") rIntS := call_int_str
theorem cd_intS {j : Int} (h : intText? p = some j) (hl : p.length ≤ 640) : CallD K rIntS [.d (.str p)] S (.int j) S := fun B H as vs c r Q q => by
  cases r with
  | cons r1 rr =>
    cases rr; cases r1
    exact ⟨p, j, rfl, h, hl, q _ B H c Evo.refl (.int _)⟩
/-- x.isdigit() and the like -/
theorem ev_bm0S {f : Str → V} {C : Str → Prop} (h : Ev K to env S (.d (.str p)) S1) (hc : C p) (hd : ∀ B : Hp, Rep K B (f p) d) : Ev K (tBM0 K "str" (fun x xs H Q => ∃ a, x = V.str a ∧ xs = [] ∧ C a ∧ Q (f a) H) to) env S (.d d) S1 := fun B H as σ c g Q q =>
  h B H as σ c g _ fun v B1 H1 c1 e1 r1 => by
    cases r1
    exact ⟨rfl, p, rfl, rfl, hc, q _ B1 H1 c1 e1 (hd B1)⟩
theorem ev_startsS (h : Ev K to env S (.d (.str p)) S1) (hx : EvA K tA env S1 [.d (.str q)] S2) : Ev K (tBM K "str" (fun x xs H Q => ∃ a b, x = V.str a ∧ xs = [V.str b] ∧ Q (.bl (Txt.startswith a b)) H) to tA) env S (.d (.bl (Txt.startswith p q))) S2 := fun B H as σ c g Q k =>
  h B H as σ c g _ fun v B1 H1 c1 e1 r1 => by
    cases r1
    refine ⟨rfl, hx B1 H1 as σ c1 (g.mono e1.ex) _ fun vs B2 H2 c2 e2 r2 => ?_⟩
    cases r2 with
    | cons r2 rr =>
      cases rr; cases r2
      exact ⟨p, q, rfl, rfl, k _ B2 H2 c2 (e1.trans e2) (.bl _)⟩
theorem reps_strs : ∀ ys : List Str, Reps K B (ys.map V.str) (ys.map Dat.str)
  | [] => .nil
  | i :: r => .cons (.str i) (reps_strs r)
theorem en_split (h : Ev K to env S (.d (.str p)) S1) (hx : EvA K tA env S1 [.d (.str q)] S2) (h1 : (q.length == 0) = false) (h2 : p.length + 2 ≤ sizeLine) :
    EvN K (tBM K "str" (fun x xs H Q => ∃ a b, x = V.str a ∧ xs = [V.str b] ∧ (b.length == 0) = false ∧ a.length + 2 ≤ sizeLine ∧ rNewStrs (Txt.split a b) H Q) to tA) env S ((Txt.split p q).map Dat.str) S2 := fun B H as σ c g Q k =>
  h B H as σ c g _ fun v B1 H1 c1 e1 r1 => by
    cases r1
    refine ⟨rfl, hx B1 H1 as σ c1 (g.mono e1.ex) _ fun vs B2 H2 c2 e2 r2 => ?_⟩
    cases r2 with
    | cons r2 rr =>
      cases rr; cases r2
      exact ⟨p, q, rfl, rfl, h1, h2, fun w hw => evn_new c c2 (e1.trans e2) hw (reps_strs _) k⟩
theorem ev_slS {tl th : TO} {lo hi : Option Int} (h : Ev K te env S (.d (.str p)) S1) (hl : EvO K tl env S1 lo S2) (hh : EvO K th env S2 hi S3) (hz : p.length ≤ sizeLine) : Ev K (tSl rSlS te tl th) env S (.d (.str (cutS p lo hi))) S3 := fun B H as σ c g Q q =>
  h B H as σ c g _ fun v B1 H1 c1 e1 r1 => hl B1 H1 as σ c1 (g.mono e1.ex) _ fun B2 H2 c2 e2 => hh B2 H2 as σ c2 (g.mono (e1.trans e2).ex) _ fun B3 H3 c3 e3 => by
    cases r1
    exact ⟨p, rfl, hz, q _ B3 H3 c3 ((e1.trans e2).trans e3) (.str _)⟩
theorem o_eqS : Op2 K rEq (.d (.str p)) (.d (.str q)) S (.bl (decide (p = q))) := fun B H as v w c r1 r2 Q k => by
  cases r1; cases r2
  have e : decide (V.str p = V.str q) = decide (p = q) := by
    by_cases h : p = q
    · subst h; simp
    · simp [h]
  refine ⟨rfl, ?_⟩
  rw [e]
  exact k _ B H c Evo.refl (.bl _)
theorem o_neS : Op2 K rNe (.d (.str p)) (.d (.str q)) S (.bl (!decide (p = q))) := fun B H as v w c r1 r2 Q k => by
  cases r1; cases r2
  have e : decide (V.str p = V.str q) = decide (p = q) := by
    by_cases h : p = q
    · subst h; simp
    · simp [h]
  refine ⟨rfl, ?_⟩
  rw [e]
  exact k _ B H c Evo.refl (.bl _)
/-- None in a list of integers -/
theorem o_inN {ns : List Int} (h : Seq S x (ns.map Dat.int)) : Op2 K (rIn K false) (.d .non) x S (.bl false) := fun B H as v w c r1 r2 Q k => by
  cases r1
  obtain ⟨a, kk, vs, rfl, hq, hr⟩ := h.read c r2
  have e := hr.ints
  subst e
  refine ⟨a, _, rfl, sq_or hq, rfl, ?_, ?_⟩
  · rw [List.all_eq_true]
    intro v hv
    obtain ⟨j, _, rfl⟩ := List.mem_map.mp hv
    rfl
  · have : inV V.non (ns.map V.int) = false := by
      unfold inV
      rw [List.any_eq_false]
      intro v hv
      obtain ⟨j, _, rfl⟩ := List.mem_map.mp hv
      exact fun z => nomatch z
    rw [this]
    exact k _ B H c Evo.refl (.bl _)
/-- x.replace(..) -/
theorem ev_repl {y z : Str} (h : Ev K to env S (.d (.str p)) S1) (hl : p.length + (p.length + 1) * z.length ≤ 16777216) : Ev K (CwR.tReplC to y z) env S (.d (.str (Txt.replace p y z))) S1 := fun B H as σ c g Q q =>
  h B H as σ c g _ fun v B1 H1 c1 e1 r1 => by
    cases r1
    exact ⟨p, rfl, hl, q _ B1 H1 c1 e1 (.str _)⟩
theorem sp_guard (h : EvT K tt env S false S1) (k : SP K n u env S1 P) : SP K n (RwS.tGuard tt u) env S P := fun B0 H0 as0 Bk B H as σ hl f c g D m =>
  h B H as σ c g _ fun B1 H1 c1 e1 => ⟨rfl, k B0 H0 as0 Bk B1 H1 as σ hl (f.step e1) c1 (g.mono e1.ex) D m⟩
theorem sp_guard1 (h : EvT K tt env S false S1) (k : P.nx env S1) : SP K n (RwS.tGuard1 tt) env S P := fun B0 H0 as0 Bk B H as σ hl f c g D m =>
  h B H as σ c g _ fun B1 H1 c1 e1 => ⟨rfl, m.nx env S1 B1 H1 as σ (f.step e1) c1 (g.mono e1.ex) k⟩
theorem et_orF (h1 : EvT K tt env S false S1) (h2 : EvT K tu env S1 b S2) : EvT K (RwS.tOrF tt tu) env S b S2 := fun B H as σ c g Q q =>
  h1 B H as σ c g _ fun B1 H1 c1 e1 => ⟨rfl, h2 B1 H1 as σ c1 (g.mono e1.ex) Q fun B2 H2 c2 e2 => q B2 H2 c2 (e1.trans e2)⟩
/-! ### rows, one below the other -/
theorem leT_lex : ∀ (ns ms : List Int) (j m : Nat), j + m = ns.length → ns.length = ms.length → Ob.lexAt (fun j => decide (ns.getD j 0 = ms.getD j 0)) (fun j => decide (ns.getD j 0 ≤ ms.getD j 0)) (decide (ns.length ≤ ms.length)) j m = !RwS.lx (ms.drop j) (ns.drop j)
  | ns, ms, j, 0, h1, h2 => by
    rw [show j = ns.length by omega, List.drop_length]
    rw [show ms.drop ns.length = [] by rw [h2, List.drop_length]]
    show decide (ns.length ≤ ms.length) = !RwS.lx [] []
    rw [decide_eq_true (by omega)]; rfl
  | ns, ms, j, m + 1, h1, h2 => by
    have hj : j < ns.length := by omega
    have hj2 : j < ms.length := by omega
    have ih := leT_lex ns ms (j + 1) m (by omega) h2
    have e1 : ns.drop j = ns.getD j 0 :: ns.drop (j + 1) := by
      rw [List.drop_eq_getElem_cons hj]; simp [hj]
    have e2 : ms.drop j = ms.getD j 0 :: ms.drop (j + 1) := by
      rw [List.drop_eq_getElem_cons hj2]; simp [hj2]
    rw [e1, e2]
    show (if decide (ns.getD j 0 = ms.getD j 0) = true then Ob.lexAt _ _ _ (j + 1) m else decide (ns.getD j 0 ≤ ms.getD j 0)) = _
    by_cases h : ns.getD j 0 = ms.getD j 0
    · rw [if_pos (by simpa using h), ih, h, RwS.lx_eq]
    · rw [if_neg (by simpa using h), RwS.lx_ne (fun z => h z.symm)]
      by_cases h' : ns.getD j 0 ≤ ms.getD j 0
      · rw [decide_eq_true h', decide_eq_false (by omega)]; rfl
      · rw [decide_eq_false h', decide_eq_true (by omega)]; rfl
theorem reps_tup {v : V} {ns : List Int} (c : Ok K B H as S) (r : Rep K B v (.tup (ns.map Dat.int))) : ∃ a, v = .ref a ∧ SqT K H a (ns.map V.int) := by
  cases r with
  | tup h1 r1 =>
    have e := r1.ints
    subst e
    exact ⟨_, rfl, Evl.ex_t c.ex h1⟩
theorem o_leR {ns ms : List Int} (h : ns.length = ms.length) : Op2 K (rLeT K) (.d (.tup (ns.map Dat.int))) (.d (.tup (ms.map Dat.int))) S (.bl (!RwS.lx ms ns)) := fun B H as v w c r1 r2 Q k => by
  obtain ⟨a, rfl, h1⟩ := reps_tup c r1
  obtain ⟨b, rfl, h2⟩ := reps_tup c r2
  refine ⟨a, b, ns, ms, rfl, rfl, h1, h2, ?_⟩
  have := leT_lex ns ms 0 (min ns.length ms.length) (by omega) h
  rw [List.drop_zero, List.drop_zero] at this
  rw [this]
  exact k _ B H c Evo.refl (.bl _)
end
end RW

set_option Elab.async false
set_option linter.all false
set_option maxRecDepth 100000
set_option maxHeartbeats 4000000
namespace RW
open PySem PySem.Spec PyProof.Rows L2
open Evl (Ex)
section
variable {K : PySem.W.Frag} {n : Nat} {te ta tb tc to ti tv : TE} {tt tu : TT} {tA tR : TA} {env env' : Env1} {S S1 S2 S3 : List Dat} {x y z : Sl} {d e : Dat} {ds es : List Dat} {r r' : R2} {P P' : Post} {t u : TS}
  {B B0 B1 B2 B' H H0 H1 H2 H' : Hp} {as as0 as1 : List Addr} {D : Ends} {σ : L2.St} {i k : Nat} {a b c : Bool} {p q : Str}
theorem RepF.none {f : Str} : ∀ {vs : List (Str × V)} {fs : List (Str × Dat)}, RepF K B vs fs → fs.lookup f = none → vs.lookup f = none
  | _, _, .nil, _ => rfl
  | _, _, .cons (f := g) (vs := vs) (ds := ds) h r, e => by
    by_cases q : (f == g) = true
    · simp only [List.lookup, q] at e; cases e
    · have q' : (f == g) = false := by simpa using q
      simp only [List.lookup, q'] at e ⊢
      exact RepF.none r e
  | _, _, .cel (f := g) r, e => by
    by_cases q : (f == g) = true
    · simp only [List.lookup, q] at e; cases e
    · have q' : (f == g) = false := by simpa using q
      simp only [List.lookup, q'] at e ⊢
      exact RepF.none r e
/-- o.m(..), o an instance that is changed -/
theorem ev_meth {C : Addr} {m : Str} {fs : List (Str × Dat)} {G : List Sl → List Dat → Dat → List Dat → Prop} {E : XK} {ss : List Sl} (h : Ev K ta env S (.c k) S1) (hs : S1[k]? = some (.ins C fs)) (hm : fs.lookup m = none) (hx : EvA K tA env S1 ss S2) (hg : G (.c k :: ss) S2 d S3) :
    Ev K (tMeth C m (SpD K G) [] E ta tA) env S (.d d) S3 := fun B H as σ c g Q q =>
  h B H as σ c g _ fun v B1 H1 c1 e1 r1 => by
    obtain ⟨w, hw, rfl⟩ := r1
    obtain ⟨dx, vs, hv, rv⟩ := (c1.cells k w _ hw hs).2.ins
    refine ⟨w, dx, vs, rfl, hv, RepF.none rv hm, hx B1 H1 as σ c1 (g.mono e1.ex) _ fun us B2 H2 c2 e2 r2 => ?_⟩
    exact ⟨B2, as, S2, .c k :: ss, d, S3, c2, by rw [List.append_nil]; exact .cons ⟨w, hw, rfl⟩ r2, hg, fun v B3 H3 c3 e3 r3 => q v B3 H3 c3 ((e1.trans e2).trans e3) r3⟩
/-- x = C(..), an instance that will be changed -/
theorem sp_setMk {C : Addr} {G : List Sl → List Dat → Dat → List Dat → Prop} {ss : List Sl} {E : XK} {fs : List (Str × Dat)} (h : EvA K tA env S ss S1) (hg : G (.c S1.length :: ss) (S1 ++ [.ins C []]) .non (S2 ++ [.ins C fs])) (hl : S2.length = S1.length)
    (q : SP K n u (env.set i (some (.c S1.length))) (S2 ++ [.ins C fs]) P) : SP K n (tSeq (tAsg (tMake C (SpD K G) [] E tA) (gName i)) u) env S P := fun B0 H0 as0 Bk B H as σ hl0 f0 c g D m =>
  h B H as σ c g _ fun vs B1 H1 c1 e1 r1 x dx hx hdx hne => by
    have hB := c1.Bnone hx
    have hxa := c1.fresh hx
    have hdB := c1.Bnone hdx
    have hda := c1.fresh hdx
    have c2 : Ok K B1 (upd (upd H1 dx (.own x)) x (.ins C dx [])) as S1 := (c1.other hdB hda).other hB hxa
    have e2 : Evo B1 H1 as B1 (upd (upd H1 dx (.own x)) x (.ins C dx [])) := (Evo.refl.other (.of hdx)).other (.of hx)
    have c3 : Ok K B1 (upd (upd H1 dx (.own x)) x (.ins C dx [])) (as ++ [x]) (S1 ++ [.ins C []]) := c2.push hB hxa (CellAt.ofI upd_same .nil) (fun _ _ _ _ _ _ e q _ => by cases e; cases q)
    have grow : ∀ {vs : List V} {ss : List Sl}, RepSs K B1 as vs ss → RepSs K B1 (as ++ [x]) vs ss := by
      intro vs ss h
      induction h with
      | nil => exact .nil
      | cons h _ ih => exact .cons h.grow ih
    have r3 : RepSs K B1 (as ++ [x]) (.ref x :: (vs ++ [])) (.c S1.length :: ss) := by
      refine .cons ⟨x, by rw [← c1.len]; simp, rfl⟩ ?_
      rw [List.append_nil]
      exact grow r1
    refine ⟨B1, as ++ [x], _, _, _, _, c3, r3, hg, fun v B4 H4 c4 e4 r4 => ⟨by cases r4; rfl, ?_⟩⟩
    have f3 : Fr B0 H0 as0 Bk B1 _ (as ++ [x]) := ((f0.step e1).step e2).push ((f0.step e1).evo.old hx)
    exact q B0 H0 as0 Bk B4 H4 (as ++ [x]) _ hl0 (f3.step e4) c4 ((((g.mono e1.ex).grow).mono e4.ex).set i ⟨x, by rw [← c1.len]; simp, rfl⟩) D m
/-- o.f += e, of a field that is a number -/
theorem sp_fldaug {C : Addr} {fs : List (Str × Dat)} {f : Str} {p q : Int} (ho : Ev K ta env S (.c k) S1) (hs : S1[k]? = some (.ins C fs)) (cl : Cls K C) (na : NoAttr K C f) (hf : fs.lookup f = some (.int p)) (h : Ev K tv env S1 (.d (.int q)) S1) (hl : fs.length < 1000)
    (kk : SP K n u env (S1.set k (.ins C (putFD f (.int (p + q)) fs))) P) : SP K n (tSeq (sFldAug K ta tv rAdd f) u) env S P := fun B0 H0 as0 Bk B H as σ hl0 f0 c g D m =>
  ho B H as σ c g _ fun w B1 H1 c1 e1 r1 => by
    obtain ⟨x, hx, rfl⟩ := r1
    obtain ⟨dx, vs, hv, rv⟩ := (c1.cells k x _ hx hs).2.ins
    obtain ⟨v, hv1, rv1⟩ := rv.get hf (fun _ z => nomatch z)
    cases rv1
    refine ⟨x, C, dx, vs, .int p, rfl, hv, cl, na, hv1, h B1 H1 as σ c1 (g.mono e1.ex) _ fun y B2 H2 c2 e2 r2 => ?_⟩
    cases r2
    obtain ⟨dx2, vs2, hv2, rv2⟩ := (c2.cells k x _ hx hs).2.ins
    have e03 := (e1.trans e2).trans (Evo.setc (o := .ins C dx2 (putF f (.int (p + q)) vs2)) (List.mem_of_getElem? hx) hv2 (fun _ z => nomatch z))
    exact ⟨p, q, rfl, rfl, dx2, vs2, hv2, by rw [rv2.length]; exact hl, kk B0 H0 as0 Bk B2 _ as σ hl0 (f0.step e03) (c2.setc hx (show CellO K B2 (.ins C dx2 _) (.ins C _) from ⟨rfl, RepF.put (.int _) rv2⟩) (c2.lkput hx hs hv2 (.int _))) (g.mono e03.ex) D m⟩
theorem sp_fldaug1 {C : Addr} {fs : List (Str × Dat)} {f : Str} {p q : Int} (ho : Ev K ta env S (.c k) S1) (hs : S1[k]? = some (.ins C fs)) (cl : Cls K C) (na : NoAttr K C f) (hf : fs.lookup f = some (.int p)) (h : Ev K tv env S1 (.d (.int q)) S1) (hl : fs.length < 1000)
    (kk : P.nx env (S1.set k (.ins C (putFD f (.int (p + q)) fs)))) : SP K n (sFldAug K ta tv rAdd f) env S P := fun B0 H0 as0 Bk B H as σ hl0 f0 c g D m =>
  ho B H as σ c g _ fun w B1 H1 c1 e1 r1 => by
    obtain ⟨x, hx, rfl⟩ := r1
    obtain ⟨dx, vs, hv, rv⟩ := (c1.cells k x _ hx hs).2.ins
    obtain ⟨v, hv1, rv1⟩ := rv.get hf (fun _ z => nomatch z)
    cases rv1
    refine ⟨x, C, dx, vs, .int p, rfl, hv, cl, na, hv1, h B1 H1 as σ c1 (g.mono e1.ex) _ fun y B2 H2 c2 e2 r2 => ?_⟩
    cases r2
    obtain ⟨dx2, vs2, hv2, rv2⟩ := (c2.cells k x _ hx hs).2.ins
    have e03 := (e1.trans e2).trans (Evo.setc (o := .ins C dx2 (putF f (.int (p + q)) vs2)) (List.mem_of_getElem? hx) hv2 (fun _ z => nomatch z))
    exact ⟨p, q, rfl, rfl, dx2, vs2, hv2, by rw [rv2.length]; exact hl, m.nx _ _ B2 _ as σ (f0.step e03) (c2.setc hx (show CellO K B2 (.ins C dx2 _) (.ins C _) from ⟨rfl, RepF.put (.int _) rv2⟩) (c2.lkput hx hs hv2 (.int _))) (g.mono e03.ex) kk⟩
/-- while test: body -/
theorem sp_while {tb : TS} (Inv : Nat → Env1 → List Dat → Prop) {m0 : Nat} (h0 : Inv m0 env S)
    (hs : ∀ m env' S', Inv m env' S' → ∃ (b : Bool) (S2 : List Dat), EvT K tt env' S' b S2 ∧
      (b = true → SP K n tb env' S2 { nx := fun env2 S3 => ∃ m', m' < m ∧ Inv m' env2 S3, rt := P.rt, ok := P.ok, bk := P.nx, ct := fun env2 S3 => ∃ m', m' < m ∧ Inv m' env2 S3 }) ∧ (b = false → P.nx env' S2)) :
    SP K n (tWhile tt tb) env S P := fun B0 H0 as0 Bk B H as σ hl f0 c g0 D mm => by
  refine ⟨fun m σ' H' => ∃ env' S' B' as', Fr B0 H0 as0 Bk B' H' as' ∧ Ok K B' H' as' S' ∧ EnvR K B' as' σ' env' ∧ Inv m env' S', ⟨m0, env, S, B, as, f0, c, g0, h0⟩, ?_⟩
  rintro m σ' H' ⟨env', S', B', as', f', c', g', hinv⟩
  obtain ⟨b, S2, ht, h1, h2⟩ := hs m env' S' hinv
  refine ht B' H' as' σ' c' g' _ fun B2 H2 c2 e2 => ?_
  have f2 := f'.step e2
  have g2 := g'.mono e2.ex
  cases b with
  | false =>
    rw [if_neg (by decide)]
    exact mm.nx env' S2 B2 H2 as' σ' f2 c2 g2 (h2 rfl)
  | true =>
    rw [if_pos rfl]
    refine ⟨fun σ3 H3 => ∃ m', m' < m ∧ ∃ env3 S3 B3 as3, Fr B0 H0 as0 Bk B3 H3 as3 ∧ Ok K B3 H3 as3 S3 ∧ EnvR K B3 as3 σ3 env3 ∧ Inv m' env3 S3, fun σ3 H3 ⟨m', hm, h⟩ => ⟨m', hm, h⟩, ?_⟩
    refine h1 rfl B0 H0 as0 Bk B2 H2 as' σ' hl f2 c2 g2 _ ⟨?_, mm.rt, ?_, ?_, mm.ok⟩
    · exact fun env4 S4 B4 H4 as4 σ4 f4 c4 g4 ⟨m', hm, h⟩ => ⟨m', hm, env4, S4, B4, as4, f4, c4, g4, h⟩
    · exact fun env4 S4 B4 H4 as4 σ4 f4 c4 g4 p4 => mm.nx env4 S4 B4 H4 as4 σ4 f4 c4 g4 p4
    · exact fun env4 S4 B4 H4 as4 σ4 f4 c4 g4 ⟨m', hm, h⟩ => ⟨m', hm, env4, S4, B4, as4, f4, c4, g4, h⟩
/-! ### a dict whose keys are rows -/
/-- x = {} -/
theorem sp_setD (q : SP K n u (env.set i (some (.c S.length))) (S ++ [.dic []]) P) : SP K n (tSeq (tAsg tDNewT (gName i)) u) env S P := fun B0 H0 as0 Bk B H as σ hl f c g D m => fun p hp => by
  have hB := c.Bnone hp
  have hpa := c.fresh hp
  have c2 : Ok K B (upd H p (.dT [])) as S := c.other hB hpa
  have e2 : Evo B H as B (upd H p (.dT [])) := Evo.refl.other (.of hp)
  refine q B0 H0 as0 Bk B _ (as ++ [p]) _ hl ((f.step e2).push (f.evo.old hp)) (c2.push hB hpa ⟨_, upd_same, rfl⟩) ((g.grow).set i ⟨p, by rw [← c.len]; simp, rfl⟩) D m
theorem key_ints {k : List Int} : (k.map (Sum.inl : Int → L2.Key)).map kV = k.map V.int := by rw [List.map_map]; rfl
def insK (ks : List (List Int)) (k : List Int) : List (List Int) := if k ∈ ks then ks else ks ++ [k]
theorem inl_inj {a b : List Int} (h : a.map (Sum.inl : Int → L2.Key) = b.map Sum.inl) : a = b := (List.map_inj_right fun _ _ z => Sum.inl.inj z).mp h
theorem putK_keys {kvs : List (List L2.Key × V)} {ks : List (List Int)} {k : List Int} {v : V} (h : kvs.map (·.1) = ks.map fun k => k.map Sum.inl) : (putK kvs (k.map Sum.inl) v).map (·.1) = (insK ks k).map fun k => k.map Sum.inl := by
  have hm : (kvs.any fun kv => decide (kv.1 = k.map Sum.inl)) = true ↔ k ∈ ks := by
    rw [List.any_eq_true]
    constructor
    · rintro ⟨kv, hkv, e⟩
      have : kv.1 ∈ kvs.map (·.1) := List.mem_map.mpr ⟨kv, hkv, rfl⟩
      rw [h] at this
      obtain ⟨k2, hk2, e2⟩ := List.mem_map.mp this
      have e3 : kv.1 = k.map Sum.inl := by simpa using e
      rw [e3] at e2
      rw [← inl_inj e2]; exact hk2
    · intro hk
      have : k.map Sum.inl ∈ kvs.map (·.1) := by rw [h]; exact List.mem_map.mpr ⟨k, hk, rfl⟩
      obtain ⟨kv, hkv, e⟩ := List.mem_map.mp this
      exact ⟨kv, hkv, by simpa using e⟩
  unfold putK insK
  by_cases hk : k ∈ ks
  · rw [if_pos (hm.mpr hk), if_pos hk, ← h, List.map_map]
    refine List.map_congr_left fun kv _ => ?_
    show (if kv.1 = k.map Sum.inl then (kv.1, v) else kv).1 = kv.1
    split <;> rfl
  · rw [if_neg (fun z => hk (hm.mp z)), if_neg hk, List.map_append, List.map_append, h]
    rfl
/-- d[tuple(xs)] = e, xs a new list of numbers -/
theorem sp_stD1 {ks : List (List Int)} {ns : List Int} (h : Ev K te env S (.d d) S1) (ho : Ev K to env S1 (.c k) S2) (hx : EvN K ti env S2 (ns.map Dat.int) S3) (hs : S3[k]? = some (.dic ks)) (hl : ks.length < sizeLine) (hq : P.nx env (S3.set k (.dic (insK ks ns)))) :
    SP K n (tAsg te (gSub to (tCB (rTupD K) (tCons ti tNil)) rSetD)) env S P := fun B0 H0 as0 Bk B H as σ hl0 f0 c g D m =>
  h B H as σ c g _ fun v B1 H1 c1 e1 r1 => ho B1 H1 as σ c1 (g.mono e1.ex) _ fun w B2 H2 c2 e2 r2 => hx B2 H2 as σ c2 (g.mono (e1.trans e2).ex) _ fun l B3 H3 vs c3 e3 hl2 hb3 hl3 r3 => by
    obtain ⟨p, hp, rfl⟩ := r2
    have ei := r3.ints
    subst ei
    refine ⟨l, _, rfl, .inl ⟨Evl.sq_of hl3, fun tp htp => ?_⟩⟩
    have hpt : tp ∉ as := c3.fresh htp
    have c4 := c3.new (o := .tup (ns.map V.int)) htp
    have e4 := Evo.new (o := .tup (ns.map V.int)) c3 htp
    obtain ⟨kvs, hkv, hks⟩ := (c4.cells k p _ hp hs).2.dic
    have e05 := (((e1.trans e2).trans e3).trans e4).trans (Evo.setc (o := .dT (putK kvs (ns.map Sum.inl) v)) (List.mem_of_getElem? hp) hkv (fun _ z => nomatch z))
    refine ⟨p, _, rfl, .inr ⟨kvs, ns.map Sum.inl, tp, hkv, rfl, by rw [key_ints]; exact upd_same, ?_, rfl⟩, ?_⟩
    · have := congrArg List.length hks
      rw [List.length_map, List.length_map] at this
      omega
    · exact m.nx _ _ _ _ as σ (f0.step e05) (c4.setc hp (show CellO K _ (.dT _) (.dic _) from putK_keys hks)) (g.mono e05.ex) hq
/-- sorted(d): the keys, ascending -/
theorem en_sortD {ks : List (List Int)} {dn : Nat} (h : Ev K to env S (.c k) S1) (hs : S1[k]? = some (.dic ks)) (hd : 1 ≤ dn) (hk : ∀ r ∈ ks, r.length = dn) (hl : ks.length < 64) {rows : List (List Int)}
    (hu : ∀ rs : List (List Int), rs.Perm ks → rs.Pairwise (fun x y => RwS.lx y x = false) → rs = rows) :
    EvN K (tCB RwS.rSortedDT (tCons to tNil)) env S (rows.map fun r => Dat.tup (r.map Dat.int)) S1 := fun B H as σ c g Q q =>
  h B H as σ c g _ fun v B1 H1 c1 e1 r1 => by
    obtain ⟨p, hp, rfl⟩ := r1
    obtain ⟨kvs, hkv, hks⟩ := (c1.cells k p _ hp hs).2.dic
    refine ⟨p, kvs, ks, dn, rfl, hkv, hks, hd, hk, hl, fun L w l1 l2 l3 hw => ?_⟩
    have er := hu _ l2 (List.pairwise_map.mpr l3)
    -- what the keys are is known from now on
    have hcell : ∀ a ∈ L.map (·.1), a ∉ as := fun a ha hm => by
      obtain ⟨r, hr, rfl⟩ := List.mem_map.mp ha
      obtain ⟨j, hj⟩ := List.mem_iff_getElem?.mp hm
      have hjl : j < S1.length := by rw [← c1.len]; exact (List.getElem?_eq_some_iff.mp hj).1
      obtain ⟨_, o, ho, hco⟩ := c1.cells j _ _ hj (List.getElem?_eq_getElem hjl)
      rw [l1 r hr] at ho
      cases ho
      exact hco
    let B2 : Hp := fun a => if a ∈ L.map (·.1) then H1 a else B1 a
    have hin : ∀ a, a ∈ L.map (·.1) → B2 a = H1 a := fun a ha => if_pos ha
    have hout : ∀ a, a ∉ L.map (·.1) → B2 a = B1 a := fun a ha => if_neg ha
    have ex12 : Ex B1 B2 := fun a o e => by
      by_cases ha : a ∈ L.map (·.1)
      · rw [hin a ha]; exact c1.ex a o e
      · rw [hout a ha]; exact e
    have c2 : Ok K B2 H1 as S1 := ⟨fun a o e => by
      by_cases ha : a ∈ L.map (·.1)
      · rw [hin a ha] at e; exact e
      · rw [hout a ha] at e; exact c1.ex a o e, c1.len, fun j a s h1 h2 => by
      obtain ⟨q1, o, q2, q3⟩ := c1.cells j a s h1 h2
      exact ⟨by rw [hout a (fun ha => hcell a ha (List.mem_of_getElem? h1))]; exact q1, o, q2, q3.mono ex12⟩, c1.nd, c1.lk, fun a ps e => by
      by_cases ha : a ∈ L.map (·.1)
      · rw [hin a ha] at e
        obtain ⟨r, hr, rfl⟩ := List.mem_map.mp ha
        rw [l1 r hr] at e; cases e
      · rw [hout a ha] at e; exact c1.ntb a ps e, c1.tb⟩
    have e12 : Evo B1 H1 as B2 H1 := ⟨ex12, fun _ _ _ h _ => h, fun a _ _ _ => by
      by_cases ha : a ∈ L.map (·.1)
      · obtain ⟨r, hr, rfl⟩ := List.mem_map.mp ha
        exact .inr ⟨_, .inl ⟨_, rfl⟩, l1 r hr⟩
      · exact .inl (hout a ha), fun _ _ _ h => h, fun _ o h nt => ⟨o, h, nt⟩⟩
    refine evn_new c c2 (e1.trans e12) hw ?_ q
    rw [← er, List.map_map]
    have key : ∀ M : List (Addr × List Int), (∀ r ∈ M, r ∈ L) → Reps K B2 (M.map fun r => V.ref r.1) (M.map ((fun r => Dat.tup (r.map Dat.int)) ∘ fun r => r.2)) := by
      intro M
      induction M with
      | nil => intro _; exact .nil
      | cons r M ih =>
        intro hM
        have hr := hM r List.mem_cons_self
        refine .cons (.tup (Evl.st_of ?_) (reps_ints r.2)) (ih fun s hs => hM s (List.mem_cons_of_mem _ hs))
        rw [hin _ (List.mem_map.mpr ⟨r, hr, rfl⟩)]
        exact l1 r hr
    exact key L fun r hr => hr
end
end RW

set_option Elab.async false
set_option linter.all false
set_option maxRecDepth 100000
set_option maxHeartbeats 4000000
namespace RW
open PySem PySem.Spec PyProof.Rows L2
open Evl (Ex)
/-! ### how a def ends: a value, or an exception of the class at C with what it keeps -/
inductive Out where
  | val (r : Dat)
  | exc (C : Addr) (p : Option (Str × Dat))
def Pay (K : PySem.W.Frag) (B H : Hp) (d : Option Addr) : Option (Str × Dat) → Prop
  | none => True
  | some (f, x) => ∃ dd v, d = some dd ∧ H dd = some (.xd [(f, v)]) ∧ Rep K B v x
def XOk (K : PySem.W.Frag) (E : XK) (o : Out) (S' : List Dat) : Hp → Hp → List Addr → Prop := fun B0 H0 as0 =>
  ∀ C p, o = .exc C p → ∀ d B' H', Ok K B' H' as0 S' → Evo B0 H0 as0 B' H' → Pay K B' H' d p → E (.ref C) d H'
def SpR (K : PySem.W.Frag) (G : List Sl → List Dat → Out → List Dat → Prop) : Sp := fun vs H Q E => ∃ B as S ss o S', Ok K B H as S ∧ RepSs K B as vs ss ∧ G ss S o S' ∧
  (∀ r, o = .val r → ∀ v B' H', Ok K B' H' as S' → Evo B H as B' H' → Rep K B' v r → Q v H') ∧ XOk K E o S' B H as
section
variable {K : PySem.W.Frag} {n : Nat} {te ta tb tc to ti : TE} {tt tu : TT} {tA tR : TA} {env env' env1 : Env1} {S S1 S2 S3 : List Dat} {x y z : Sl} {d e : Dat} {ds es : List Dat} {r r' : R2} {P P' : Post} {t u : TS}
  {B B0 B1 B2 B' H H0 H1 H2 H' : Hp} {as as0 as1 : List Addr} {D : Ends} {σ : L2.St} {i k : Nat} {a b c : Bool} {E : XK} {C : Addr} {p : Option (Str × Dat)} {o : Out}
  {G : List Sl → List Dat → Out → List Dat → Prop}
theorem sp_bodyR {N : List Str} {vs : List V} {Q : VK} (h : SpR K G vs H Q E)
    (k : ∀ ss S o S', G ss S o S' → SP K S.length t (ss.map some ++ List.replicate (N.length - ss.length) none) S { rt := fun r' T => o = .val r' ∧ T = S', nx := fun _ T => o = .val .non ∧ T.take S.length = S', ok := XOk K E o S' }) :
    t { nx := fun _ H' => Q .non H', rt := Q } (start N vs) H := by
  obtain ⟨B, as, S, ss, o, S', c, rs, g, q, qx⟩ := h
  refine k ss S o S' g B H as B B H as _ c.len ⟨Evl.Ex.refl B, List.take_length, Evo.refl, fun a ha => ?_⟩ c (EnvR.start rs) _ ⟨fun env' T B' H' as' σ' f c' g' ⟨p1, p2⟩ => ?_, fun v r' T B' H' c' e' r1 ⟨p1, p2⟩ => ?_, fun _ _ _ _ _ _ _ _ _ p => p.elim, fun _ _ _ _ _ _ _ _ _ p => p.elim, qx⟩
  · rw [List.drop_length] at ha; cases ha
  · have c2 := c'.upto as.length
    rw [f.base, c.len, p2] at c2
    exact q .non p1 .non B' H' c2 f.evo .non
  · subst p2
    exact q r' p1 v B' H' c' e' r1
theorem spr_len {k : Nat} (h : ∀ ss S r S', G ss S r S' → ss.length = k) : ∀ vs H Q E, SpR K G vs H Q E → vs.length = k := fun vs H Q E q => by
  obtain ⟨B, as, S, ss, r, S', c, rs, g, _⟩ := q
  rw [rs.length]
  exact h ss S r S' g
/-! ### expressions that raise -/
def XWant (K : PySem.W.Frag) (E : XK) (B H : Hp) (as : List Addr) (C : Addr) (p : Option (Str × Dat)) (S1 : List Dat) : Prop :=
  ∀ d B' H', Ok K B' H' as S1 → Evo B H as B' H' → Pay K B' H' d p → E (.ref C) d H'
def EvX (K : PySem.W.Frag) (E : XK) (te : TE) (env : Env1) (S : List Dat) (C : Addr) (p : Option (Str × Dat)) (S1 : List Dat) : Prop :=
  ∀ B H as σ, Ok K B H as S → EnvR K B as σ env → XWant K E B H as C p S1 → ∀ Q, te σ H Q
def EvXT (K : PySem.W.Frag) (E : XK) (tt : TT) (env : Env1) (S : List Dat) (C : Addr) (p : Option (Str × Dat)) (S1 : List Dat) : Prop :=
  ∀ B H as σ, Ok K B H as S → EnvR K B as σ env → XWant K E B H as C p S1 → ∀ Q, tt σ H Q
def EvXA (K : PySem.W.Frag) (E : XK) (tA : TA) (env : Env1) (S : List Dat) (C : Addr) (p : Option (Str × Dat)) (S1 : List Dat) : Prop :=
  ∀ B H as σ, Ok K B H as S → EnvR K B as σ env → XWant K E B H as C p S1 → ∀ Q, tA σ H Q
theorem XWant.step {S' : List Dat} (w : XWant K E B H as C p S1) (e : Evo B H as B1 H1) : XWant K E B1 H1 as C p S1 := fun d B' H' c e1 pa => w d B' H' c (e.trans e1) pa
/-- a call that gives a value -/
theorem ev_callR {ss : List Sl} (h : EvA K tA env S ss S1) (hg : G ss S1 (.val d) S2) : Ev K (tCall (SpR K G) [] E tA) env S (.d d) S2 := fun B H as σ c g Q q =>
  h B H as σ c g _ fun vs B1 H1 c1 e1 r1 => ⟨B1, as, S1, ss, .val d, S2, c1, by rw [List.append_nil]; exact r1, hg, fun r er v B2 H2 c2 e2 r2 => by cases er; exact q v B2 H2 c2 (e1.trans e2) r2, fun _ _ z => nomatch z⟩
theorem ev_callX {ss : List Sl} (h : EvA K tA env S ss S1) (hg : G ss S1 (.exc C p) S2) : EvX K E (tCall (SpR K G) [] E tA) env S C p S2 := fun B H as σ c g w Q =>
  h B H as σ c g _ fun vs B1 H1 c1 e1 r1 => ⟨B1, as, S1, ss, .exc C p, S2, c1, by rw [List.append_nil]; exact r1, hg, fun r er => (nomatch er), fun C' p' z d B2 H2 c2 e2 pa => by cases z; exact w d B2 H2 c2 (e1.trans e2) pa⟩
theorem evx_op1 (ha : EvX K E ta env S C p S1) : EvX K E (tOp r ta tb) env S C p S1 := fun B H as σ c g w Q => ha B H as σ c g w _
theorem evx_op2 (ha : Ev K ta env S x S1) (hb : EvX K E tb env S1 C p S2) : EvX K E (tOp r ta tb) env S C p S2 := fun B H as σ c g w Q =>
  ha B H as σ c g _ fun v B1 H1 c1 e1 r1 => hb B1 H1 as σ c1 (g.mono e1.ex) (w.step (S' := S) e1) _
theorem evxa_1 (ha : EvX K E ta env S C p S1) : EvXA K E (tCons ta tA) env S C p S1 := fun B H as σ c g w Q => ha B H as σ c g w _
theorem evxa_2 (ha : Ev K ta env S x S1) (hb : EvXA K E tA env S1 C p S2) : EvXA K E (tCons ta tA) env S C p S2 := fun B H as σ c g w Q =>
  ha B H as σ c g _ fun v B1 H1 c1 e1 r1 => hb B1 H1 as σ c1 (g.mono e1.ex) (w.step (S' := S) e1) _
theorem evx_cb {r : List V → Hp → VK → Prop} (ha : EvXA K E tA env S C p S1) : EvX K E (tCB r tA) env S C p S1 := fun B H as σ c g w Q => ha B H as σ c g w _
theorem evx_callA {sp : Sp} {dvs : List V} {E' : XK} (ha : EvXA K E tA env S C p S1) : EvX K E (tCall sp dvs E' tA) env S C p S1 := fun B H as σ c g w Q => ha B H as σ c g w _
theorem evxt_B (ha : EvX K E te env S C p S1) : EvXT K E (tB te) env S C p S1 := fun B H as σ c g w Q => ha B H as σ c g w _
theorem evxt_test (ha : EvX K E te env S C p S1) : EvXT K E (tTest te) env S C p S1 := fun B H as σ c g w Q => ha B H as σ c g w _
theorem evxt_tru {K' : PySem.W.Frag} (ha : EvX K E te env S C p S1) : EvXT K E (tTru K' te) env S C p S1 := fun B H as σ c g w Q => ha B H as σ c g w _
theorem evxt_not (ha : EvXT K E tt env S C p S1) : EvXT K E (tNot tt) env S C p S1 := fun B H as σ c g w Q => ha B H as σ c g w _
theorem evxt_and1 (ha : EvXT K E tt env S C p S1) : EvXT K E (tAnd tt tu) env S C p S1 := fun B H as σ c g w Q => ha B H as σ c g w _
theorem evxt_or1 (ha : EvXT K E tt env S C p S1) : EvXT K E (tOr tt tu) env S C p S1 := fun B H as σ c g w Q => ha B H as σ c g w _
theorem evxt_or2 (h : EvT K tt env S false S1) (hb : EvXT K E tu env S1 C p S2) : EvXT K E (tOr tt tu) env S C p S2 := fun B H as σ c g w Q =>
  h B H as σ c g _ fun B1 H1 c1 e1 => hb B1 H1 as σ c1 (g.mono e1.ex) (w.step (S' := S) e1) _
theorem evxt_and2 (h : EvT K tt env S true S1) (hb : EvXT K E tu env S1 C p S2) : EvXT K E (tAnd tt tu) env S C p S2 := fun B H as σ c g w Q =>
  h B H as σ c g _ fun B1 H1 c1 e1 => hb B1 H1 as σ c1 (g.mono e1.ex) (w.step (S' := S) e1) _
theorem evx_if (h : EvT K tt env S b S1) (h1 : b = true → EvX K E ta env S1 C p S2) (h2 : b = false → EvX K E tb env S1 C p S2) : EvX K E (tIf tt ta tb) env S C p S2 := fun B H as σ c g w Q =>
  h B H as σ c g _ fun B1 H1 c1 e1 => by
    cases b with
    | true => exact h1 rfl B1 H1 as σ c1 (g.mono e1.ex) (w.step (S' := S) e1) Q
    | false => exact h2 rfl B1 H1 as σ c1 (g.mono e1.ex) (w.step (S' := S) e1) Q
/-! ### statements that raise: what is wanted of exceptions stands in P.ok -/
theorem Meets.want {Bk : Hp} (m : Meets K B0 H0 as0 Bk D P) (hP : P.ok = XOk K E (.exc C p) S2) (f : Fr B0 H0 as0 Bk B H as) (hl : as0.length = n) (hS : S1.take n = S2) : XWant K E B H as C p S1 := fun d B' H' c' e' pa => by
  have ok := m.ok
  rw [hP] at ok
  have f1 := f.step e'
  have c2 := c'.upto as0.length
  rw [f1.base, hl, hS] at c2
  exact ok C p rfl d B' H' c2 f1.evo pa
theorem sp_dropX (h : EvX K E te env S C p S1) (hP : P.ok = XOk K E (.exc C p) (S1.take n)) : SP K n (tDrop te) env S P := fun B0 H0 as0 Bk B H as σ hl f c g D m => h B H as σ c g (m.want hP f hl rfl) _
theorem sp_dropXq (h : EvX K E te env S C p S1) (hP : P.ok = XOk K E (.exc C p) (S1.take n)) : SP K n (tSeq (tDrop te) u) env S P := fun B0 H0 as0 Bk B H as σ hl f c g D m => h B H as σ c g (m.want hP f hl rfl) _
theorem sp_asgX {g : TG} (h : EvX K E te env S C p S1) (hP : P.ok = XOk K E (.exc C p) (S1.take n)) : SP K n (tAsg te g) env S P := fun B0 H0 as0 Bk B H as σ hl f c g D m => h B H as σ c g (m.want hP f hl rfl) _
theorem sp_asgXq {g : TG} (h : EvX K E te env S C p S1) (hP : P.ok = XOk K E (.exc C p) (S1.take n)) : SP K n (tSeq (tAsg te g) u) env S P := fun B0 H0 as0 Bk B H as σ hl f c g D m => h B H as σ c g (m.want hP f hl rfl) _
theorem sp_retX (h : EvX K E te env S C p S1) (hP : P.ok = XOk K E (.exc C p) (S1.take n)) : SP K n (tRet te) env S P := fun B0 H0 as0 Bk B H as σ hl f c g D m => h B H as σ c g (m.want hP f hl rfl) _
theorem sp_ifX (h : EvXT K E tt env S C p S1) (hP : P.ok = XOk K E (.exc C p) (S1.take n)) : SP K n (tIfS tt t u) env S P := fun B0 H0 as0 Bk B H as σ hl f c g D m => h B H as σ c g (m.want hP f hl rfl) _
theorem sp_ifXq {v : TS} (h : EvXT K E tt env S C p S1) (hP : P.ok = XOk K E (.exc C p) (S1.take n)) : SP K n (tSeq (tIfS tt t u) v) env S P := fun B0 H0 as0 Bk B H as σ hl f c g D m => h B H as σ c g (m.want hP f hl rfl) _
/-- raise X('..') -/
theorem sp_raise0 (hP : P.ok = XOk K E (.exc C none) (S.take n)) : SP K n (fun _ _ H => E (.ref C) none H) env S P := fun B0 H0 as0 Bk B H as σ hl f c g D m => m.want hP f hl rfl none B H c Evo.refl trivial
theorem sp_raise0q (hP : P.ok = XOk K E (.exc C none) (S.take n)) : SP K n (tSeq (fun _ _ H => E (.ref C) none H) u) env S P := fun B0 H0 as0 Bk B H as σ hl f c g D m => m.want hP f hl rfl none B H c Evo.refl trivial
end
/-! ### an exception that keeps a value -/
/-- __init__(self, v): self.f = v -/
def spXi (K : PySem.W.Frag) (C : Addr) (f : Str) : Sp := fun vs H Q _ => ∃ (a : Addr) (v : V), vs = [.ref a, v] ∧ OexC K C ∧ PySem.W.findIn K (.ref C) f = some none ∧ H a = some (exo a C none) ∧ ∀ dx, H dx = none → dx ≠ a → Q .non (upd (upd H dx (exd dx [(f, v)])) a (exo a C (some dx)))
theorem spxi_len {K : PySem.W.Frag} {C : Addr} {f : Str} : ∀ vs H Q E, spXi K C f vs H Q E → vs.length = 2 := fun vs H Q E ⟨a, v, e, _⟩ => by rw [e]; rfl
theorem spxi_body {K : PySem.W.Frag} {C : Addr} {f : Str} {N : List Str} {vs : List V} {H : Hp} {Q : VK} {E : XK} (h : spXi K C f vs H Q E) (hN : N.length = 2) : tOst K f (tVar 0) (tVar 1) { nx := fun _ H' => Q .non H', rt := Q } (start N vs) H := by
  obtain ⟨a, v, rfl, h1, h2, h3, q⟩ := h
  have e0 : (start N [V.ref a, v])[0]? = some (some (V.ref a)) := rfl
  have e1 : (start N [V.ref a, v])[1]? = some (some v) := rfl
  exact ⟨v, e1, _, e0, a, C, rfl, h1, h2, .inl ⟨h3, q⟩⟩
section
variable {K : PySem.W.Frag} {n : Nat} {tA : TA} {env : Env1} {S S1 : List Dat} {d : Dat} {P : Post} {u : TS} {E : XK} {C : Addr} {f : Str}
theorem xd_end {H1 : Hp} {a d : Addr} {u v w : HO} (ha : H1 a = none) (hd : d ≠ a) : upd (del (upd (upd (upd H1 a u) d v) a w) a) d (.xd fs) = upd H1 d (.xd fs) := by
  funext b
  by_cases hb : b = d
  · rw [hb, upd_same, upd_same]
  · rw [upd_ne hb, upd_ne hb]
    by_cases hba : b = a
    · rw [hba, del_same, ha]
    · rw [del_ne hba, upd_ne hba, upd_ne hb, upd_ne hba]
theorem mko_want {B H : Hp} {as : List Addr} {σ : L2.St} (h : EvA K tA env S [.d d] S1) (oc : OexC K C) (hf : PySem.W.findIn K (.ref C) f = some none) (c : Ok K B H as S) (g : EnvR K B as σ env) (w : XWant K E B H as C (some (f, d)) S1) :
    tMkO C (spXi K C f) [] tA σ H fun cls d H' => E cls d H' := h B H as σ c g _ fun vs B1 H1 c1 e1 r1 => by
  cases r1 with
  | cons r1 rr =>
    rename_i v vs'
    cases rr
    refine ⟨by show 1 ≤ 1000; decide, fun a ha => ⟨a, v, rfl, oc, hf, upd_same, fun dx hdx hne => ⟨rfl, dx, [(f, v)], upd_same, by rw [upd_ne hne, upd_same], by rw [upd_ne hne] at hdx; exact hdx, ?_⟩⟩⟩
    rw [upd_ne hne] at hdx
    rw [xd_end ha hne]
    have hB := c1.Bnone hdx
    exact w (some dx) B1 _ (c1.other hB (c1.fresh hdx)) (e1.trans (Evo.refl.other (.of hdx))) ⟨dx, v, rfl, upd_same, r1⟩
/-- raise X(e) -/
theorem sp_raise1 (h : EvA K tA env S [.d d] S1) (oc : OexC K C) (hf : PySem.W.findIn K (.ref C) f = some none) (hP : P.ok = XOk K E (.exc C (some (f, d))) (S1.take n)) : SP K n (fun _ σ H => tMkO C (spXi K C f) [] tA σ H fun cls d H' => E cls d H') env S P :=
  fun B0 H0 as0 Bk B H as σ hl f0 c g D m => mko_want h oc hf c g (m.want hP f0 hl rfl)
theorem sp_raise1q (h : EvA K tA env S [.d d] S1) (oc : OexC K C) (hf : PySem.W.findIn K (.ref C) f = some none) (hP : P.ok = XOk K E (.exc C (some (f, d))) (S1.take n)) : SP K n (tSeq (fun _ σ H => tMkO C (spXi K C f) [] tA σ H fun cls d H' => E cls d H') u) env S P :=
  fun B0 H0 as0 Bk B H as σ hl f0 c g D m => mko_want h oc hf c g (m.want hP f0 hl rfl)
end
end RW

set_option Elab.async false
set_option linter.all false
set_option maxRecDepth 100000
set_option maxHeartbeats 4000000
namespace RW
open PySem PySem.Spec PyProof.Rows L2
open Evl (Ex)
/-! ### tables of code objects among what is changed -/
section
variable {K : PySem.W.Frag} {env : Env1} {S S1 S2 : List Dat} {B B1 H H1 : Hp} {as : List Addr} {σ : L2.St}
def TabsD (T : List (Addr × Str)) (S : List Dat) : Prop := ∀ p ∈ T, ∃ k : Nat, S[k]? = some (.tab p.1 p.2)
theorem codeO_tbl {c : Addr} {q : Str} (ps : Array Value) : LamX.CodeO c q ≠ .tbl ps := LamX.codeO_ne ps
theorem Ok.tabAt (c : Ok K B H as S) {k : Nat} {P : Addr} {q : Str} (h : S[k]? = some (.tab P q)) : as[k]? = some P ∧ B P = none ∧ ∃ ps, H P = some (.tbl ps) ∧ TriplesOk ps.toList ∧ ∀ (pos : Pos) (cv : Value), codeAmong pos ps.toList = some cv → ∃ c, cv = .ref c ∧ B c = some (LamX.CodeO c q) := by
  have ha := c.tb k P q h
  obtain ⟨hb, o, ho, hc⟩ := c.cells k P _ ha h
  cases o <;> first
    | exact hc.elim
    | exact ⟨ha, hb, _, ho, hc⟩
theorem Ok.tabs {T : List (Addr × Str)} (c : Ok K B H as S) (h : TabsD T S) : LamX.Tabs T H := fun p hp => by
  obtain ⟨k, hk⟩ := h p hp
  obtain ⟨_, _, ps, h1, h2, h3⟩ := c.tabAt hk
  refine ⟨ps, h1, h2, fun pos cv hc => ?_⟩
  obtain ⟨c', e1, e2⟩ := h3 pos cv hc
  exact ⟨c', e1, c.ex _ _ e2⟩
/-- all codes are known from now on -/
noncomputable def withCodes (B H1 : Hp) : Hp := fun a => by
  classical
  exact if ∃ q, H1 a = some (LamX.CodeO a q) then H1 a else B a
theorem wc_yes {a : Addr} {q : Str} (h : H1 a = some (LamX.CodeO a q)) : withCodes B H1 a = H1 a := by
  unfold withCodes
  exact if_pos ⟨q, h⟩
theorem wc_no {a : Addr} (h : ¬ ∃ q, H1 a = some (LamX.CodeO a q)) : withCodes B H1 a = B a := by
  unfold withCodes
  exact if_neg h
theorem wc_or (a : Addr) : (withCodes B H1 a = H1 a ∧ ∃ q, H1 a = some (LamX.CodeO a q)) ∨ withCodes B H1 a = B a := by
  by_cases h : ∃ q, H1 a = some (LamX.CodeO a q)
  · obtain ⟨q, h⟩ := h
    exact .inl ⟨wc_yes h, q, h⟩
  · exact .inr (wc_no h)
/-- behind the making of a lambda: all but the tables stand, the tables are tables -/
theorem Ok.lam {T : List (Addr × Str)} (c : Ok K B H as S) (hT : TabsD T S) (hall : ∀ (k : Nat) (P : Addr) (q : Str), S[k]? = some (.tab P q) → (P, q) ∈ T) (e : LamX.ExtN H H1) (t : LamX.Tabs T H1) :
    Ok K (withCodes B H1) H1 as S ∧ Evo B H as (withCodes B H1) H1 := by
  have hBH : ∀ a o, B a = some o → H1 a = some o := fun a o h => e a o (c.ex a o h) fun ps z => c.ntb a ps (by rw [h, z])
  have ex1 : Ex B (withCodes B H1) := fun a o h => by
    rcases wc_or (B := B) (H1 := H1) a with ⟨z, _⟩ | z
    · rw [z]; exact hBH a o h
    · rw [z]; exact h
  have cellNC : ∀ (k : Nat) (a : Addr) (s : Dat), as[k]? = some a → S[k]? = some s → ¬ ∃ q, H1 a = some (LamX.CodeO a q) := fun k a s h1 h2 ⟨q, hq⟩ => by
    obtain ⟨hb, o, ho, hc⟩ := c.cells k a s h1 h2
    by_cases ht : ∃ ps, o = .tbl ps
    · obtain ⟨ps, rfl⟩ := ht
      cases s <;> first
        | exact hc.elim
        | (rename_i P q2
           have hp := c.tb k P q2 h2
           rw [h1] at hp
           cases hp
           obtain ⟨ps2, h3, _⟩ := t (a, q2) (hall k a q2 h2)
           rw [hq] at h3
           exact codeO_tbl ps2 (Option.some.inj h3))
    · have := e a o ho fun ps z => ht ⟨ps, z⟩
      rw [hq] at this
      have e2 := Option.some.inj this
      unfold LamX.CodeO at e2
      subst e2
      cases s <;> exact hc.elim
  refine ⟨⟨fun a o h => ?_, c.len, fun k a s h1 h2 => ?_, c.nd, fun k a s o h1 h2 h3 => ?_, fun a ps h => ?_, c.tb⟩, ⟨ex1, fun a o hn h nt => e a o h nt, fun a o h nt => ?_, fun a o fo h => e a o h (fun ps z => by subst z; exact fo.tbl), fun a o h nt => ⟨o, e a o h nt, nt⟩⟩⟩
  · rcases wc_or (B := B) (H1 := H1) a with ⟨z, _⟩ | z
    · rw [z] at h; exact h
    · rw [z] at h; exact hBH a o h
  · obtain ⟨hb, o, ho, hc⟩ := c.cells k a s h1 h2
    refine ⟨by rw [wc_no (cellNC k a s h1 h2)]; exact hb, ?_⟩
    by_cases ht : ∃ ps, o = .tbl ps
    · obtain ⟨ps, rfl⟩ := ht
      cases s <;> first
        | exact hc.elim
        | (rename_i P q2
           have hp := c.tb k P q2 h2
           rw [h1] at hp
           cases hp
           obtain ⟨ps2, h3, h4, h5⟩ := t (a, q2) (hall k a q2 h2)
           refine ⟨_, h3, h4, fun pos cv hcv => ?_⟩
           obtain ⟨c', e1, e2⟩ := h5 pos cv hcv
           exact ⟨c', e1, by rw [wc_yes e2]; exact e2⟩)
    · exact ⟨o, e a o ho fun ps z => ht ⟨ps, z⟩, hc.mono ex1⟩
  · obtain ⟨hb, o', ho, hc⟩ := c.cells k a s h1 h2
    by_cases ht : ∃ ps, o' = .tbl ps
    · obtain ⟨ps, rfl⟩ := ht
      cases s <;> first
        | exact hc.elim
        | exact fun _ _ _ _ z => nomatch z
    · have := e a o' ho fun ps z => ht ⟨ps, z⟩
      rw [h3] at this
      cases this
      exact c.lk k a s _ h1 h2 ho
  · rcases wc_or (B := B) (H1 := H1) a with ⟨z, q, hq⟩ | z
    · rw [z, hq] at h
      exact codeO_tbl ps (Option.some.inj h)
    · rw [z] at h; exact c.ntb a ps h
  · rcases wc_or (B := B) (H1 := H1) a with ⟨z, q, hq⟩ | z
    · exact .inr ⟨_, .inr ⟨a, q, rfl⟩, hq⟩
    · exact .inl z
end
end RW

set_option Elab.async false
set_option linter.all false
set_option maxRecDepth 100000
set_option maxHeartbeats 4000000
namespace RW
open PySem PySem.Spec PyProof.Rows L2
open Evl (Ex)
/-! ### try with several clauses, some of which name the exception -/
/-- a clause: its class, the slot of the name (if there is one), its suite's reading -/
abbrev Clause := Value × Option Nat × (Addr → Value → Option Addr → TS)
def unsetE (D : Ends) (i : Nat) : Ends := { nx := fun σ' H' => D.nx (σ'.set i none) H', rt := D.rt, bk := fun σ' H' => D.bk (σ'.set i none) H', ct := fun σ' H' => D.ct (σ'.set i none) H' }
def suiteRun (D : Ends) (i : Option Nat) (ts : TS) (a : Addr) (σ : L2.St) (H : Hp) : Prop := match i with
  | none => ts D σ H
  | some i => ts (unsetE D i) (σ.set i (some (.ref a))) H
def wMix (K : PySem.W.Frag) (Wout : WX) (D : Ends) : List Clause → WX
  | [] => Wout
  | (c, i, ts) :: r => fun cls d σ H => ∃ b, PySem.W.exmOne K cls c = some b ∧ (b = true → ∀ a, H a = none → suiteRun D i (ts a cls d) a σ H) ∧ (b = false → wMix K Wout D r cls d σ H)
inductive HdX (X : Cx) : List ExceptHandler → List Clause → Prop
  | nil : HdX X [] []
  | bare {x : Str} {c : Value} {ts : Addr → Value → Option Addr → TS} {b₀ : Stmt} {su : List Stmt} {np p' : Pos} {hds : List ExceptHandler} {l : List Clause} (hc : Names X x c)
      (hsu : ∀ (a : Addr) (oe : Obj) (cls : Value) (d : Option Addr) (pn : List (Addr × Obj)), Zc cls d oe → (∃ vs, oe.data = .fields vs) → PSs (X.suite a ((a, oe) :: pn)) (b₀ :: su) (ts a cls d)) (r : HdX X hds l) :
      HdX X (.ExceptHandler (some (.Name x np)) none (b₀ :: su) p' :: hds) ((c, none, ts) :: l)
  | named {x m : Str} {i : Nat} {c : Value} {ts : Addr → Value → Option Addr → TS} {b₀ : Stmt} {su : List Stmt} {np p' : Pos} {hds : List ExceptHandler} {l : List Clause} (hc : Names X x c) (hN : X.N.Nodup) (hi : X.N[i]? = some m) (hm : X.env.kindOf m = some .local)
      (hsu : ∀ (a : Addr) (oe : Obj) (cls : Value) (d : Option Addr) (pn : List (Addr × Obj)), Zc cls d oe → (∃ vs, oe.data = .fields vs) → PSs (X.suite a ((a, oe) :: pn)) (b₀ :: su) (ts a cls d)) (r : HdX X hds l) :
      HdX X (.ExceptHandler (some (.Name x np)) (some m) (b₀ :: su) p' :: hds) ((c, some i, ts) :: l)
section
variable {X : Cx} {body : List Stmt} {h₀ : ExceptHandler} {hds : List ExceptHandler} {l : List Clause} {pos : Pos} {tb : WX → TS} {Wout : WX}
/-- a caught exception at a, on the ground -/
structure Caught (X : Cx) (pins : List (Addr × Obj)) (a : Addr) (B : Heap) (sI : Shared) (σ : L2.St) (H : Hp) (cls : Value) (d : Option Addr) (s' : Shared) : Prop where
  J : Inv X pins σ H sI
  nb : ∀ b o, sI.heap.get? b = some o → b ∉ frs X.stack → B.get? b = some o
  fl : HandSPX.FlyingZ B (X.env :: X.outer) a (Zc cls d) s'.heap
  up : sI.heap.UpToSlots s'.heap
  na : H a = none
  os : s'.os = sI.os
  ag : AllBare s'.gens
theorem Caught.inv {pins : List (Addr × Obj)} {a : Addr} {B : Heap} {sI : Shared} {σ : L2.St} {H : Hp} {cls : Value} {d : Option Addr} {s' : Shared} (C : Caught X pins a B sI σ H cls d s') : Inv X pins σ H s' := C.J.landed C.nb C.fl.1 C.up C.os C.ag
theorem Caught.off {pins : List (Addr × Obj)} {a : Addr} {B : Heap} {sI : Shared} {σ : L2.St} {H : Hp} {cls : Value} {d : Option Addr} {s' : Shared} (C : Caught X pins a B sI σ H cls d s') (hf : X.env.frame = some X.env.locals) : a ≠ X.env.locals ∧ a ∉ X.fs := by
  obtain ⟨o, vs, ho, _, hd⟩ := C.fl.there
  have nfr : a ∉ frs (X.env :: X.outer) := fun hm => by
    obtain ⟨_, o', e', hnf⟩ := C.fl.2.2.1.mem hm
    rw [ho] at e'; cases e'
    exact hnf _ hd
  refine ⟨fun z => nfr (List.mem_filterMap.mpr ⟨X.env, List.mem_cons_self, by rw [hf, z]⟩), fun hm => ?_⟩
  obtain ⟨e, he, q⟩ := List.mem_filterMap.mp hm
  exact nfr (List.mem_filterMap.mpr ⟨e, List.mem_cons_of_mem _ he, q⟩)
theorem handle_mix (hs : X.stack = X.env :: X.outer) (hf : X.env.frame = some X.env.locals) (tk : Takes X Wout) {pins : List (Addr × Obj)} {D : Ends} {a : Addr} {B : Heap} {sI : Shared} {σ : L2.St} {H : Hp} {cls : Value} {d : Option Addr} :
    ∀ {hds : List ExceptHandler} {l : List Clause}, HdX X hds l → ∀ {s' : Shared}, Caught X pins a B sI σ H cls d s' → wMix X.K Wout D l cls d σ H → wpAny (model X.prog X.w) X.A (handleBy (.ref a) X.env hds) (L2.SP X pins D) X.xe s' := by
  intro hds l hk
  have suites : ∀ {s' : Shared} {b₀ : Stmt} {su : List Stmt} {ts : TS} {oe : Obj} {E : Ends} {σ1 : L2.St} {s1 : Shared} {R : Flow → Shared → Prop} {E' : Value → Shared → Prop}, PSs (X.suite a ((a, oe) :: (X.pn ++ pins))) (b₀ :: su) ts → Inv (X.suite a ((a, oe) :: (X.pn ++ pins))) [] σ1 H s1 → ts E σ1 H →
      (∀ f s2, L2.SP (X.suite a ((a, oe) :: (X.pn ++ pins))) [] E f s2 → R f s2) → wpAny (model X.prog X.w) (X.A.mark (some (.ref a))) (execs (b₀ :: su) X.env) R E' s1 := fun hp I ht k =>
    wpAny_mono (hp.run [] _ _ H _ I ht) (fun f s2 q => k f s2 q) fun _ _ z => False.elim z
  induction hk with
  | nil =>
    intro s' C w
    refine wpAny_handleBy_nil ?_
    have fl3 := C.fl
    obtain ⟨_, _, _, oe, vs, T, oT, ts', he, hz, hd, h1, hr⟩ := id fl3
    unfold PySem.passOn
    refine wpAny_bind (wpAny_field he hd h1 ?_)
    rw [if_neg (show ¬ ((Value.ref T == Value.none) = true) by simp)]
    have fin : wpAny (model X.prog X.w) X.A (setFlight (.ref a) X.env.frame) (fun _ s4 => wpAny (model X.prog X.w) X.A (throw (.ref a) : Sem Flow) (L2.SP X pins D) X.xe s4) X.xe s' := by
      rw [hf]
      exact HandSPX.setFlight_upZ fl3 fun h4 hh4 up4 => wpAny_throw (tk _ _ ⟨a, B, sI, pins, σ, H, cls, d, rfl, C.J, C.nb, C.up.trans up4, .inr (.inr (by rw [hs]; exact hh4)), C.na, C.os, C.ag, w⟩)
    first
      | exact wpAny_bind (wpAny_pure (wpAny_bind fin))
      | exact wpAny_bind fin
  | @bare x c ts b₀ su np p' hds2 l2 hc hsu r ih =>
    intro s' C w
    obtain ⟨b, hb1, hyes, hno⟩ := w
    obtain ⟨nL, nF⟩ := C.off hf
    obtain ⟨oe, vs, he, hz, hd⟩ := C.fl.there
    have S3 := C.inv.suite he hd C.na nL nF
    refine wpAny_handleBy_cons (codeAny_handlers_test ?_) (by intro q; cases q)
    have LT : PySem.W.Looks (model X.prog X.w) s'.heap (typeOf (.ref a)) cls := fun A Q E s k q => wpAny_typeOf_ref (k _ _ he) (by rw [hz.1]; exact q)
    have LM := PySem.W.exm_one (M := model X.prog X.w) C.inv.kIn LT hb1
    have nm : ∀ {Q E : Value → Shared → Prop}, Q c s' → wpAny (model X.prog X.w) (X.A.mark (some (.ref a))) (eval (.Name x np) X.env) Q E s' := fun {Q E} q => by
      obtain ⟨hg, hdbg, h | ⟨h, hv, hnn⟩⟩ := hc
      · exact ld_glob (X := X.suite a ((a, oe) :: (X.pn ++ pins))) S3 hg h q hdbg
      · exact ld_blt (X := X.suite a ((a, oe) :: (X.pn ++ pins))) S3 hg h hv q hnn hdbg
    refine nm (LM.here ?_)
    cases b with
    | true =>
      refine codeAny_handlers_suite ?_
      refine HandSPX.lands_againZ C.fl fun h4 fl4 up4 => ?_
      have C4 : Caught X pins a B sI σ H cls d { s' with heap := h4 } := ⟨C.J, C.nb, fl4, C.up.trans up4, C.na, C.os, C.ag⟩
      obtain ⟨oe4, vs4, he4, hz4, hd4⟩ := fl4.there
      refine suites (s' := s') (hsu a oe4 cls d (X.pn ++ pins) hz4 ⟨_, hd4⟩) (C4.inv.suite he4 hd4 C.na nL nF) (hyes rfl a C.na) fun f s6 hsp => ?_
      cases f with
      | next => obtain ⟨σ6, H6, S6, q6⟩ := hsp; exact ⟨_, _, S6.unsuite C.J.ok, q6⟩
      | brk => obtain ⟨σ6, H6, S6, q6⟩ := hsp; exact ⟨_, _, S6.unsuite C.J.ok, q6⟩
      | cont => obtain ⟨σ6, H6, S6, q6⟩ := hsp; exact ⟨_, _, S6.unsuite C.J.ok, q6⟩
      | ret u => obtain ⟨v6, σ6, H6, S6, r6, q6⟩ := hsp; exact ⟨_, _, _, S6.unsuite C.J.ok, r6, q6⟩
    | false =>
      show wpAny _ X.A (handleBy (.ref a) X.env hds2) _ _ _
      exact ih (s' := s') C (hno rfl)
  | @named x m i c ts b₀ su np p' hds2 l2 hc hN hi hm hsu r ih =>
    intro s' C w
    obtain ⟨b, hb1, hyes, hno⟩ := w
    obtain ⟨nL, nF⟩ := C.off hf
    obtain ⟨oe, vs, he, hz, hd⟩ := C.fl.there
    have S3 := C.inv.suite he hd C.na nL nF
    have hloc : Loc X.env.scope m := .inl hm
    refine wpAny_handleBy_cons (codeAny_handlers_test ?_) (by intro q; cases q)
    have LT : PySem.W.Looks (model X.prog X.w) s'.heap (typeOf (.ref a)) cls := fun A Q E s k q => wpAny_typeOf_ref (k _ _ he) (by rw [hz.1]; exact q)
    have LM := PySem.W.exm_one (M := model X.prog X.w) C.inv.kIn LT hb1
    have nm : ∀ {Q E : Value → Shared → Prop}, Q c s' → wpAny (model X.prog X.w) (X.A.mark (some (.ref a))) (eval (.Name x np) X.env) Q E s' := fun {Q E} q => by
      obtain ⟨hg, hdbg, h | ⟨h, hv, hnn⟩⟩ := hc
      · exact ld_glob (X := X.suite a ((a, oe) :: (X.pn ++ pins))) S3 hg h q hdbg
      · exact ld_blt (X := X.suite a ((a, oe) :: (X.pn ++ pins))) S3 hg h hv q hnn hdbg
    refine nm (LM.here ?_)
    cases b with
    | true =>
      refine codeAny_handlers_suite_as ?_
      refine HandSPX.lands_againZ C.fl fun h4 fl4 up4 => ?_
      have C4 : Caught X pins a B sI σ H cls d { s' with heap := h4 } := ⟨C.J, C.nb, fl4, C.up.trans up4, C.na, C.os, C.ag⟩
      obtain ⟨oe4, vs4, he4, hz4, hd4⟩ := fl4.there
      have S4 := C4.inv.suite he4 hd4 C.na nL nF
      refine store_ok (X := X.suite a ((a, oe4) :: (X.pn ++ pins))) (v := .ref a) S4 hN hi hloc rfl (fun s5 S5 => ?_) (.inr hm)
      refine suites (s' := s') (hsu a oe4 cls d (X.pn ++ pins) hz4 ⟨_, hd4⟩) S5 (hyes rfl a C.na) fun f s6 hsp => ?_
      have end_ : ∀ {σ6 : L2.St} {H6 : Hp} {Q : Shared → Prop}, Inv (X.suite a ((a, oe4) :: (X.pn ++ pins))) [] σ6 H6 s6 → (∀ s7, Inv X pins (σ6.set i none) H6 s7 → Q s7) →
          wpAny (model X.prog X.w) X.A (do bindName X.env m .none; unbindBehindTheSuite X.env m p') (fun _ s7 => Q s7) X.xe s6 := fun S6 hq => gone_ok (S6.unsuite C.J.ok) hN hi hm hq
      cases f with
      | next => obtain ⟨σ6, H6, S6, q6⟩ := hsp; exact end_ S6 fun s7 J7 => ⟨_, _, J7, q6⟩
      | brk => obtain ⟨σ6, H6, S6, q6⟩ := hsp; exact end_ S6 fun s7 J7 => ⟨_, _, J7, q6⟩
      | cont => obtain ⟨σ6, H6, S6, q6⟩ := hsp; exact end_ S6 fun s7 J7 => ⟨_, _, J7, q6⟩
      | ret u => obtain ⟨v6, σ6, H6, S6, r6, q6⟩ := hsp; exact end_ S6 fun s7 J7 => ⟨_, _, _, J7, r6, q6⟩
    | false =>
      show wpAny _ X.A (handleBy (.ref a) X.env hds2) _ _ _
      exact ih (s' := s') C (hno rfl)
theorem ps_try_mix (hs : X.stack = X.env :: X.outer) (hf : X.env.frame = some X.env.locals) (tk : Takes X Wout)
    (hb : ∀ (W : WX) (pn : List (Addr × Obj)) (xe : Value → Shared → Prop), Takes (X.tr pn xe) W → PassesOwn (model X.prog X.w) X.A X.env xe → PSs (X.tr pn xe) body (tb W)) (hh : HdX X (h₀ :: hds) l) :
    PS X (.Try body (h₀ :: hds) [] [] pos) (fun D σ H => tb (wMix X.K Wout D l) D σ H) := by
  refine ⟨fun pins s σ H D I h => wpAny_Try_except ?_⟩
  have ok := I.ok
  refine wpAny_mono ((hb (wMix X.K Wout D l) (X.pn ++ pins) (fun e s₁ => wpAny (model X.prog X.w) X.A (noteFrame e X.env) (fun _ s₂ => wpAny (model X.prog X.w) X.A (setFlight e none)
    (fun _ s₃ => wpAny (model X.prog X.w) X.A (handleBy e X.env (h₀ :: hds)) (L2.SP X pins D) X.xe s₃) X.xe s₂) X.xe s₁) (fun u s' xx => ?_) PassesOwn.looking).run [] s σ H D (I.toTry _) h) (fun f s1 hsp => ?_) (fun e s1 he => he)
  · obtain ⟨a, B, sI, pins', σ', H', cls, d, rfl, J', nb, up, sky, na, os, ag, w⟩ := xx
    have sky' : Sky B (X.env :: X.outer) a (Zc cls d) X.env.locals s'.heap := by rw [← hs]; exact sky
    show wpAny (model X.prog X.w) X.A (noteFrame (.ref a) X.env) _ _ _
    refine Sky.land Zc.steady (by rw [ok.frames, hs]) hf sky' fun h3 fl3 up3 => ?_
    exact handle_mix hs hf tk hh (s' := { s' with heap := h3 }) ⟨J'.ofTry ok, nb, fl3, up.trans up3, na, os, ag⟩ w
  · cases f with
    | next => obtain ⟨σ', H', J', q⟩ := hsp; exact wpAny_execs_nil ⟨σ', H', J'.ofTry ok, q⟩
    | brk => obtain ⟨σ', H', J', q⟩ := hsp; exact ⟨σ', H', J'.ofTry ok, q⟩
    | cont => obtain ⟨σ', H', J', q⟩ := hsp; exact ⟨σ', H', J'.ofTry ok, q⟩
    | ret u => obtain ⟨v, σ', H', J', r, q⟩ := hsp; exact ⟨v, σ', H', J'.ofTry ok, r, q⟩
end
end RW

set_option Elab.async false
set_option linter.all false
set_option maxRecDepth 100000
set_option maxHeartbeats 4000000
namespace RW
open PySem PySem.Spec PyProof.Rows L2
open Evl (Ex)
/-! ### a def that calls what it got, and tells how that ended -/
theorem takes_sized {X : Cx} {W : WX} (tk : Takes X W) : Takes X (fun cls d σ H => σ.length = X.N.length → W cls d σ H) := fun u s' ⟨a, B, sI, pins, σ, H, cls, d, e, I, nb, up, sky, na, os, ag, w⟩ =>
  tk u s' ⟨a, B, sI, pins, σ, H, cls, d, e, I, nb, up, sky, na, os, ag, w I.len⟩
/-- what it tells -/
inductive MR where
  | v (x : V)
  | t (xs : List V)
def Ret : MR → Hp → VK → Prop
  | .v x, H, Q => Q x H
  | .t xs, H, Q => ∀ b, H b = none → Q (.ref b) (upd H b (.tup xs))
def Dm (te0 : TE) (Q : VK) : Ends := { nx := fun σ' H' => te0 σ' H' Q, rt := Q }
def TMet (K : PySem.W.Frag) (l : List Clause) (te0 : TE) (r0 : MR) (m : Nat) : (XK → Hp → VK → Prop) → Hp → VK → Prop := fun tl H Q =>
  ∃ E : XK, (∀ cls d σ' H', E cls d H' → σ'.length = m → wMix K (fun _ _ _ _ => False) (Dm te0 Q) l cls d σ' H') ∧ tl E H fun _ H' => Ret r0 H' Q
theorem met_gives {X : Cx} {Ng : List Str} {x a q : Str} {sg : Scope} {g : Addr} {cdg : Value} {hds : List ExceptHandler} {h₀ : ExceptHandler} {l : List Clause} {e0 : Expr} {te0 : TE} {p1 p2 p3 p4 p5 : Pos}
    (hd : ∀ s H, HdX (cxOf C8.CX0 X.prog X.w X.K X.mg X.base Ng x sg g cdg X.A X.stack s H C8.E0).nox (h₀ :: hds) l) (he : ∀ s H, PE (cxOf C8.CX0 X.prog X.w X.K X.mg X.base Ng x sg g cdg X.A X.stack s H C8.E0).nox e0 te0)
    (h0 : ∀ f : Addr, (L2.start Ng [V.ref f])[0]? = some (some (V.ref f))) {r0 : MR} (hr0 : ∀ σ H Q, te0 σ H Q ↔ Ret r0 H Q) :
    LamX.GivesTo X Ng x sg g cdg [.Try [.Expr (.Call (.Name a p1) [] [] p2) p3] (h₀ :: hds) [] [] p4, .Return (some e0) p5] a q (TMet X.K l te0 r0 Ng.length) := by
  intro f c' s H Q tl act hc h
  obtain ⟨E, hE, ht⟩ := h
  refine ⟨_, pss_cons (ps_try_mix (X := (cxOf C8.CX0 X.prog X.w X.K X.mg X.base Ng x sg g cdg X.A X.stack s H C8.E0).nox)
    (tb := fun W D σ H => (∀ cls d σ' H', E cls d H' → σ'.length = Ng.length → W cls d σ' H') ∧ σ[0]? = some (some (.ref f)) ∧ H c' = some (LamX.CodeO c' q) ∧ tl E H fun _ H' => D.nx σ H') rfl rfl takes0 (fun W pn xe tk _ => ?_) (hd s H)) (pss_one (ps_ret (he s H))), ?_⟩
  · refine ⟨fun pins s' σ H' D I h' => ?_⟩
    obtain ⟨hW, h1, h2, h3⟩ := h'
    have hp := act (fun cls d σ' H' => σ'.length = Ng.length → W cls d σ' H') pn xe E p1 p2 (takes_sized tk) hW
    exact (pss_one (ps_expr (pos := p3) hp)).run pins s' σ H' D I ⟨h1, h2, h3⟩
  · refine ⟨fun cls d σ' H' e hl => hE cls d σ' H' e hl, h0 f, hc, ?_⟩
    show tl E H fun _ H' => te0 (L2.start Ng [V.ref f]) H' Q
    have e : (fun (_ : V) (H' : Hp) => te0 (L2.start Ng [V.ref f]) H' Q) = fun _ H' => Ret r0 H' Q := by
      funext _ H'
      exact propext (hr0 _ _ _)
    rw [e]; exact ht
def PayV (H : Hp) (d : Option Addr) : Option (Str × V) → Prop
  | none => True
  | some (f, v) => ∃ dd, d = some dd ∧ H dd = some (.xd [(f, v)])
def EMet (res : Addr → Option (Str × V) → MR → Prop) (Q : VK) : XK := fun cls d H' => ∃ C p r, cls = .ref C ∧ res C p r ∧ PayV H' d p ∧ Ret r H' Q
structure MetOk (TT : (XK → Hp → VK → Prop) → Hp → VK → Prop) (r0 : MR) (res : Addr → Option (Str × V) → MR → Prop) : Prop where
  run : ∀ tl H Q, (tl (EMet res Q) H fun _ H' => Ret r0 H' Q) → TT tl H Q
/-- r stands for d -/
def RepM (K : PySem.W.Frag) : MR → Dat → Prop
  | .v x, d => ∀ B, Rep K B x d
  | .t xs, d => ∃ ds, d = .tup ds ∧ ∀ B, Reps K B xs ds
section
variable {K : PySem.W.Frag} {env : Env1} {S S1 : List Dat} {x : Sl} {d : Dat} {T : List (Addr × Str)} {TT : (XK → Hp → VK → Prop) → Hp → VK → Prop} {t : XK → TE} {r0 r : MR} {res : Addr → Option (Str × V) → MR → Prop} {C : Addr} {p : Option (Str × Dat)}
  {B H B1 H1 : Hp} {as : List Addr}
theorem Ret.of {Q : VK} (hr : RepM K r d) (c : Ok K B1 H1 as S1) (e : Evo B H as B1 H1) (q : ∀ v B' H', Ok K B' H' as S1 → Evo B H as B' H' → RepS K B' as v (.d d) → Q v H') : Ret r H1 Q := by
  cases r with
  | v x => exact q x B1 H1 c e (hr B1)
  | t xs =>
    obtain ⟨ds, rfl, hds⟩ := hr
    exact fun b hb => q (.ref b) (upd B1 b (.tup xs)) _ (c.new hb) (e.trans (Evo.new c hb)) (.tup (Evl.st_of upd_same) (hds _))
def AllTabs (T : List (Addr × Str)) (S : List Dat) : Prop := TabsD T S ∧ ∀ (k : Nat) (P : Addr) (q : Str), S[k]? = some (.tab P q) → (P, q) ∈ T
theorem ev_met (M : MetOk TT r0 res) (hT : AllTabs T S) (h : ∀ E, Ev K (t E) env S x S1) (hr : RepM K r0 d) : Ev K (LamX.tLam T TT t) env S (.d d) S1 := fun B H as σ c g Q q =>
  ⟨c.tabs hT.1, fun H1 eN t1 => by
    obtain ⟨c1, e1⟩ := c.lam hT.1 hT.2 eN t1
    exact M.run _ _ _ (h _ _ H1 as σ c1 (g.mono e1.ex) _ fun v B2 H2 c2 e2 r2 => Ret.of hr c2 (e1.trans e2) q)⟩
theorem ev_metX (M : MetOk TT r0 res) (hT : AllTabs T S) (h : ∀ E, EvX K E (t E) env S C p S1) (hr : RepM K r d) (hres : ∀ B : Hp, match p with | none => res C none r | some (f, x) => ∀ v, Rep K B v x → res C (some (f, v)) r) :
    Ev K (LamX.tLam T TT t) env S (.d d) S1 := fun B H as σ c g Q q =>
  ⟨c.tabs hT.1, fun H1 eN t1 => by
    obtain ⟨c1, e1⟩ := c.lam hT.1 hT.2 eN t1
    refine M.run _ _ _ (h _ _ H1 as σ c1 (g.mono e1.ex) (fun dx B2 H2 c2 e2 pa => ?_) _)
    have R := Ret.of (Q := Q) hr c2 (e1.trans e2) q
    cases p with
    | none => exact ⟨C, none, r, rfl, hres B, trivial, R⟩
    | some fx =>
      obtain ⟨f, x⟩ := fx
      obtain ⟨dd, v, h1, h2, h3⟩ := pa
      exact ⟨C, some (f, v), r, rfl, hres B2 v h3, ⟨dd, h1, h2⟩, R⟩⟩
end
end RW

set_option Elab.async false
set_option linter.all false
set_option maxRecDepth 100000
set_option maxHeartbeats 4000000
namespace RW
open PySem PySem.Spec PyProof.Rows L2
open Evl (Ex)
/-! ### any value: what the checks of a program ask -/
/-- a value of a menu: known at any depth -/
inductive KD : Dat → Prop
  | non : KD .non
  | bl (b : Bool) : KD (.bl b)
  | int (i : Int) : KD (.int i)
  | str (s : Str) : KD (.str s)
  | dd : KD .dd
  | tup {xs : List Dat} (h : ∀ d ∈ xs, KD d) (l : xs.length ≤ 1000) : KD (.tup xs)
  | lst {xs : List Dat} (h : ∀ d ∈ xs, KD d) (l : xs.length ≤ 1000) : KD (.lst xs)
def isIntD : Dat → Bool
  | .int _ => true
  | .bl _ => true
  | _ => false
def isTupD : Dat → Bool
  | .tup _ => true
  | _ => false
def isStrD : Dat → Bool
  | .str _ => true
  | _ => false
def shD : Dat → Bool
  | .int i => decide (-(10 ^ 60) < i) && decide (i < 10 ^ 60)
  | _ => false
def lenD : Dat → Nat
  | .tup xs => xs.length
  | _ => 0
def innD : Dat → List Dat
  | .tup xs => xs
  | _ => []
section
variable {K : PySem.W.Frag} {env : Env1} {S : List Dat} {d : Dat} {i : Nat} {b c : Bool} {neg : Bool}
theorem KD.ty (h : KD d) : ∃ T, tyD d = some T := by cases h <;> exact ⟨_, rfl⟩
theorem ck_int (h : KD d) : CallD K (rIsi K) [.d d, .d (.ty "int")] S (.bl (isIntD d)) S := by
  cases h <;> first | exact cd_isi (b := true) rfl (by decide +kernel) | exact cd_isi (b := false) rfl (by decide +kernel)
theorem ck_tup (h : KD d) : CallD K (rIsi K) [.d d, .d (.ty "tuple")] S (.bl (isTupD d)) S := by
  cases h <;> first | exact cd_isi (b := true) rfl (by decide +kernel) | exact cd_isi (b := false) rfl (by decide +kernel)
theorem ck_str (h : KD d) : CallD K (rIsi K) [.d d, .d (.ty "str")] S (.bl (isStrD d)) S := by
  cases h <;> first | exact cd_isi (b := true) rfl (by decide +kernel) | exact cd_isi (b := false) rfl (by decide +kernel)
/-- what an own class asks of the built-in ones -/
structure KtC (K : PySem.W.Frag) (C : Addr) : Prop where
  non : PySem.W.kitOne K (.type "NoneType") (.ref C) = some false
  bl : PySem.W.kitOne K (.type "bool") (.ref C) = some false
  int : PySem.W.kitOne K (.type "int") (.ref C) = some false
  str : PySem.W.kitOne K (.type "str") (.ref C) = some false
  tup : PySem.W.kitOne K (.type "tuple") (.ref C) = some false
  lst : PySem.W.kitOne K (.type "list") (.ref C) = some false
  dd : PySem.W.kitOne K (.type "dict") (.ref C) = some false
theorem ck_own {C : Addr} (k : KtC K C) (h : KD d) : CallD K (rIsi K) [.d d, .d (.adr C)] S (.bl false) S := by
  cases h
  · exact cd_isiN rfl k.non
  · exact cd_isiN rfl k.bl
  · exact cd_isiN rfl k.int
  · exact cd_isiN rfl k.str
  · exact cd_isiN rfl k.dd
  · exact cd_isiN rfl k.tup
  · exact cd_isiN rfl k.lst
theorem o_isX_bl : Op2 K (rIsX neg) (.d (.bl c)) (.d (.bl b)) S (.bl (neg != decide (c = b))) := fun B H as v w k h1 h2 Q q => by
  cases h1; cases h2
  refine ⟨b, rfl, ?_⟩
  have e : decide (V.bl c = V.bl b) = decide (c = b) := by cases c <;> cases b <;> rfl
  rw [e]
  exact q _ B H k Evo.refl (.bl _)
theorem o_isX_blE {a : Bool} (h : (neg != decide (c = b)) = a) : Op2 K (rIsX neg) (.d (.bl c)) (.d (.bl b)) S (.bl a) := h ▸ o_isX_bl
theorem bad_int (v : Int) : (decide (v ≤ -(10 ^ 60)) || decide (10 ^ 60 ≤ v)) = !shD (.int v) := by
  have e1 : decide (v ≤ -(10 ^ 60)) = !decide (-(10 ^ 60) < v) := by
    by_cases h : -(10 ^ 60) < v
    · rw [decide_eq_true h, decide_eq_false (by omega)]; rfl
    · rw [decide_eq_false h, decide_eq_true (by omega)]; rfl
  have e2 : decide (10 ^ 60 ≤ v) = !decide (v < 10 ^ 60) := by
    by_cases h : v < 10 ^ 60
    · rw [decide_eq_true h, decide_eq_false (by omega)]; rfl
    · rw [decide_eq_false h, decide_eq_true (by omega)]; rfl
  rw [e1, e2]
  show (!_ || !_) = !(decide (-(10 ^ 60) < v) && decide (v < 10 ^ 60))
  rw [Bool.not_and]
/-- not isinstance(x, int) or x is True or x is False or x <= BENEATH or x >= BEYOND -/
theorem et_bad (hd : KD d) (he : env[i]? = some (some (.d d))) :
    EvT K (tOr (tNot (tTru K (tCB (rIsi K) (tCons (tVar i) (tCons (tC (.ty "int")) tNil))))) (tOr (tTest (tOp (rIsX false) (tVar i) (tC (.bl true)))) (tOr (tTest (tOp (rIsX false) (tVar i) (tC (.bl false))))
      (tOr (tTest (tOp (rI0 fun i j => V.bl (decide (i ≤ j))) (tVar i) (tC (.int (-(10 ^ 60)))))) (tTest (tOp (rI0 fun i j => V.bl (decide (j ≤ i))) (tVar i) (tC (.int (10 ^ 60))))))))) env S (!shD d) S := by
  have h1 : EvT K (tNot (tTru K (tCB (rIsi K) (tCons (tVar i) (tCons (tC (.ty "int")) tNil))))) env S (!isIntD d) S := et_not (et_bl (ev_cb (ea_cons (ev_var he) (ea_cons ev_ty ea_nil)) (ck_int hd)))
  by_cases hi : isIntD d = true
  · rw [hi] at h1
    cases d <;> first
      | (cases hi)
      | skip
    · rename_i v
      refine et_orP (a := false) (b := true) h1 fun _ => ?_
      cases v
      · exact et_orP (a := false) (b := true) (et_test (ev_op (ev_var he) ev_bl (o_isX_blE rfl))) fun _ => et_orP (a := true) (b := false) (et_test (ev_op (ev_var he) ev_bl (o_isX_blE rfl))) fun h => by cases h
      · exact et_orP (a := true) (b := false) (et_test (ev_op (ev_var he) ev_bl (o_isX_blE rfl))) fun h => by cases h
    · rename_i v
      refine et_orP (a := false) (b := !shD (.int v)) h1 fun _ => ?_
      refine et_orP (a := false) (b := !shD (.int v)) (et_test (ev_op (ev_var he) ev_bl o_isX_int)) fun _ => ?_
      refine et_orP (a := false) (b := !shD (.int v)) (et_test (ev_op (ev_var he) ev_bl o_isX_int)) fun _ => ?_
      exact (et_orP (a := decide (v ≤ -(10 ^ 60))) (b := decide (10 ^ 60 ≤ v)) (et_test (ev_op (ev_var he) ev_int o_le)) fun _ => et_test (ev_op (ev_var he) ev_int o_ge)).to (bad_int v)
  · have hf : isIntD d = false := by simpa using hi
    rw [hf] at h1
    have e : shD d = false := by cases d <;> first | rfl | (simp [isIntD] at hf)
    rw [e]
    exact et_orP (a := true) (b := false) h1 fun h => by cases h
end
/-! rows of any value -/
def rowB (n : Nat) : Dat → Bool
  | .tup xs => decide (xs.length = n) && xs.all shD
  | _ => false
def srB (d : Dat) (lo hi : Int) : Bool := match d with
  | .tup xs => decide (lo ≤ xs.length) && decide ((xs.length : Int) ≤ hi) && xs.all shD
  | _ => false
def asrB (v : Dat) (mr ml : Int) : Bool := match v with
  | .tup (r0 :: rs) => decide (((r0 :: rs).length : Int) ≤ mr) && (isTupD r0 && (decide (1 ≤ lenD r0) && decide ((lenD r0 : Int) ≤ ml)) && (r0 :: rs).all (rowB (lenD r0)))
  | _ => false
def intD : Dat → Int
  | .int i => i
  | _ => 0
def ascB : List (List Int) → Bool
  | [] => true
  | [_] => true
  | x :: y :: r => RwS.lx x y && ascB (y :: r)
def lotB (v : Dat) : Bool := asrB v 400 8 && ascB ((innD v).map fun r => (innD r).map intD)
def rdB : Dat → Bool
  | .tup [a, b] => lotB a && lotB b && decide (lenD ((innD a).getD 0 .non) = lenD ((innD b).getD 0 .non))
  | _ => false
theorem shD_int {d : Dat} (h : shD d = true) : d = .int (intD d) := by
  cases d <;> first | rfl | (simp [shD] at h)
theorem all_sh {xs : List Dat} (h : xs.all shD = true) : xs = (xs.map intD).map Dat.int := by
  induction xs with
  | nil => rfl
  | cons x xs ih =>
    rw [List.all_cons, Bool.and_eq_true] at h
    rw [List.map_cons, List.map_cons, ← ih h.2, ← shD_int h.1]
theorem asr_rows {v : Dat} {mr ml : Int} (h : asrB v mr ml = true) : ∃ (n : Nat) (rows : List (List Int)), v = .tup (rows.map fun r => Dat.tup (r.map Dat.int)) ∧ rows ≠ [] ∧ (rows.length : Int) ≤ mr ∧ 1 ≤ n ∧ (n : Int) ≤ ml ∧ (∀ r ∈ rows, r.length = n ∧ ∀ x ∈ r, -(10 ^ 60) < x ∧ x < 10 ^ 60) := by
  unfold asrB at h
  split at h
  · rename_i r0 rs
    simp only [Bool.and_eq_true, decide_eq_true_eq] at h
    obtain ⟨h1, ⟨h2, h3, h4⟩, h5⟩ := h
    refine ⟨lenD r0, (r0 :: rs).map fun r => (innD r).map intD, ?_, by simp, by simpa using h1, h3, h4, fun r hr => ?_⟩
    · congr 1
      rw [List.map_map]
      have key : ∀ l : List Dat, l.all (rowB (lenD r0)) = true → l = l.map ((fun r => Dat.tup (r.map Dat.int)) ∘ fun r => (innD r).map intD) := by
        intro l
        induction l with
        | nil => intro _; rfl
        | cons d l ih =>
          intro hl
          rw [List.all_cons, Bool.and_eq_true] at hl
          rw [List.map_cons, ← ih hl.2]
          congr 1
          cases d <;> first
            | (have := hl.1; simp [rowB] at this; done)
            | (rename_i xs
               have hx := hl.1
               unfold rowB at hx
               rw [Bool.and_eq_true] at hx
               exact congrArg Dat.tup (all_sh hx.2))
      exact key _ h5
    · obtain ⟨d, hd, rfl⟩ := List.mem_map.mp hr
      have hx := List.all_eq_true.mp h5 d hd
      cases d <;> first
        | (simp [rowB] at hx; done)
        | (rename_i xs
           unfold rowB at hx
           rw [Bool.and_eq_true, decide_eq_true_eq] at hx
           refine ⟨by show (List.map intD xs).length = _; rw [List.length_map]; exact hx.1, fun x hxm => ?_⟩
           obtain ⟨e, he, rfl⟩ := List.mem_map.mp hxm
           have hs := List.all_eq_true.mp hx.2 e he
           have e2 := shD_int hs
           rw [e2] at hs
           unfold shD at hs
           rw [Bool.and_eq_true, decide_eq_true_eq, decide_eq_true_eq] at hs
           exact hs)
  · cases h
/-! a promise with two cases -/
theorem spr_or {K : PySem.W.Frag} {G1 G2 : List Sl → List Dat → Out → List Dat → Prop} {vs : List V} {H : Hp} {Q : VK} {E : XK} (h : SpR K (fun ss S o S' => G1 ss S o S' ∨ G2 ss S o S') vs H Q E) : SpR K G1 vs H Q E ∨ SpR K G2 vs H Q E := by
  obtain ⟨B, as, S, ss, o, S', c, rs, g, q, qx⟩ := h
  rcases g with g | g
  · exact .inl ⟨B, as, S, ss, o, S', c, rs, g, q, qx⟩
  · exact .inr ⟨B, as, S, ss, o, S', c, rs, g, q, qx⟩
theorem passR {X : Cx} {E : XK} (tk : Takes X (fun cls d _ H => E cls d H)) : Passes (L2.CX X.prog X.w) X E := passes_call tk fun _ _ _ _ h => h
end RW

set_option Elab.async false
set_option linter.all false
set_option maxRecDepth 100000
set_option maxHeartbeats 4000000
namespace RW
open PySem PySem.Spec PyProof.Rows L2
open Evl (Ex)
/-- an expression that is never reached -/
theorem pe_no {X : Cx} {e : Expr} : PE X e (fun _ _ _ => False) := ⟨fun _ _ _ _ _ _ h => h.elim⟩
/-- one of several readings -/
theorem pe_any {X : Cx} {e : Expr} {ι : Type} {t : ι → TE} (h : ∀ i, PE X e (t i)) : PE X e (fun σ H Q => ∃ i, t i σ H Q) := ⟨fun pins s σ H Q I ⟨i, q⟩ => (h i).run pins s σ H Q I q⟩
/-! ### a local name that holds a def which may raise -/
structure HeldX (P : Program) (w : World) (K : PySem.W.Frag) (mg : Str → Option Value) (base : Heap) (k : Nat) (f : Addr) (sp : Sp) : Prop where
  ex : ∃ (fd : FuncData) (ps : List Str), FnOk P w K mg base (L2.CX P w) k f fd ps sp ∧ PySem.W.keepIn K (.ref f) = true ∧ Binds K fd ps []
def tCallX (i : Nat) (M : Addr → Option Sp) (E : XK) (t : TA) : TE := fun σ H Q => ∃ j : Addr × { sp : Sp // True }, M j.1 = some j.2.1 ∧ σ[i]? = some (some (.ref j.1)) ∧ t σ H fun vs H1 => j.2.1 (vs ++ []) H1 Q E
theorem pe_callLX {X : Cx} {k i : Nat} {M : Addr → Option Sp} {E : XK} {x : Str} {p pos : Pos} {e : Expr} {es : List Expr} {t : TA} (A : ∀ f sp, M f = some sp → HeldX X.prog X.w X.K X.mg X.base k f sp) (hr : Room k X.A) (hx : Passes (L2.CX X.prog X.w) X E) (ha : PA X (e :: es) t) (hN : X.N[i]? = some x := by rfl)
    (hv : Vis X.env.scope x := by first | exact Or.inl rfl | exact Or.inr (Or.inl rfl) | exact Or.inr (Or.inr rfl)) (hdb : (x == ("__debug__" : Str)) = false := by decide) (hcd : (x == ("__classdict__" : Str)) = false := by decide)
    (he : starEach (e :: es) X.env = (false, eval e X.env) :: starEach es X.env := by rfl) (hpl : (backTo pos (starEach es X.env)).any (·.1) = false := by rfl) : PE X (.Call (.Name x p) (e :: es) [] pos) (tCallX i M E t) := by
  refine ⟨fun pins s σ H Q I h => ?_⟩
  obtain ⟨⟨f, sp, _⟩, hM, hs, ht⟩ := h
  obtain ⟨fd, ps, F, hk, hb⟩ := (A f sp hM).ex
  exact (pe_callL (i := i) (f := f) (sp := sp) (dvs := []) (E := E) F hr hN hv hk hb .nil hx ha hdb hcd he hpl).run pins s σ H Q I ⟨hs, ht⟩
section
variable {K : PySem.W.Frag} {env : Env1} {S S1 S2 : List Dat} {d : Dat} {i : Nat} {tA : TA} {M : Addr → Option Sp} {E : XK} {f C : Addr} {p : Option (Str × Dat)} {G : List Sl → List Dat → Out → List Dat → Prop} {ss : List Sl} {te ta tb : TE}
theorem ev_callLR (hi : env[i]? = some (some (.d (.adr f)))) (hM : M f = some (SpR K G)) (h : EvA K tA env S ss S1) (hg : G ss S1 (.val d) S2) : Ev K (tCallX i M E tA) env S (.d d) S2 := fun B H as σ c g Q q => by
  obtain ⟨v, h1, h2⟩ := g.2 i _ hi
  cases h2
  exact ⟨(f, ⟨_, trivial⟩), hM, h1, ev_callR h hg B H as σ c g Q q⟩
theorem ev_callLX (hi : env[i]? = some (some (.d (.adr f)))) (hM : M f = some (SpR K G)) (h : EvA K tA env S ss S1) (hg : G ss S1 (.exc C p) S2) : EvX K E (tCallX i M E tA) env S C p S2 := fun B H as σ c g w Q => by
  obtain ⟨v, h1, h2⟩ := g.2 i _ hi
  cases h2
  exact ⟨(f, ⟨_, trivial⟩), hM, h1, ev_callX h hg B H as σ c g w Q⟩
/-- {} as a value -/
theorem ev_dd : Ev K tDNewT env S (.d .dd) S := fun B H as σ c g Q q => fun p hp =>
  q (.ref p) (upd B p (.dT [])) _ (c.new hp) (Evo.new c hp) (.dd upd_same)
/-- x * n of a text -/
def rMulS : R2 := fun x y H Q => ∃ a n, x = .str a ∧ y = .int n ∧ MulOk a n ∧ Q (.str (Txt.mul a n)) H
theorem op_mulS {X : Cx} : OpR X (binaryOp .Mult) rMulS := by
  intro pins s σ H x y v u Q I rx ry h
  obtain ⟨a, n, rfl, rfl, hm, q⟩ := h
  obtain ⟨t, rfl⟩ := rx
  obtain ⟨t2, rfl⟩ := ry
  exact SB.mul hm fun t' k => ⟨.str (Txt.mul a n), H, I.tok _, ⟨_, rfl⟩, q⟩
theorem o_mulS {a : Str} {n : Int} (h : MulOk a n) : Op2 K rMulS (.d (.str a)) (.d (.int n)) S (.str (Txt.mul a n)) := fun B H as v w c r1 r2 Q q => by
  cases r1; cases r2
  exact ⟨a, n, rfl, rfl, h, q _ B H c Evo.refl (.str _)⟩
end
/-! ### the end of a law with lambdas -/
structure LamEnd (l : PySem.W.OpenLaw) (q : Program) (w : World) (K : PySem.W.Frag) (k n : Nat) (x : Str) (mg : Str → Option Value) (fa : Addr) : Prop where
  ex : ∃ (fd : FuncData) (cs : List (Addr × Addr)) (sp : Sp), (∀ p ∈ cs, ∃ (y : Str) (d : DefRec), (recsOf q).find? (fun e => e.name == y) = some d ∧ PySem.W.tabIn K y = some p) ∧ (∀ p ∈ cs, K.lookup p.2 = none) ∧ (∀ (s : Shared) (u : Value), BindsTo s fd ⟨[u], []⟩ [(x, u)]) ∧
    (∀ (H : Hp) (a : Addr) (ns : List Int), ns.length ≤ n → (∀ z ∈ ns, Builtin.Int.intBits z ≤ 1048576) → (∀ p ∈ cs, H p.2 = some (.tbl #[])) → SqL K H a (ns.map V.int) → sp [.ref a] H (fun v _ => v = .bl true) fun _ _ _ => False) ∧
    ∀ base : Heap, K.In base → base.Ns mainGlobals mg → (∀ p ∈ cs, LamX.TabB base mg p.1 p.2) → FnOk l.prog w K mg base CX0 k fa fd [x] sp
theorem walk_lam {l : PySem.W.OpenLaw} {n k : Nat} {q : Program} {loose : List Str} {XP : (Str → Option Value) → Heap → Prop} {YP : World → Heap → Prop} {d : DefRec} {K : Params → PySem.W.Frag} {x : Str}
    (hn : l.most = some n) (hn2 : n ≤ sizeLine) (hdf : d.params.defaults = []) (hr : Room k callerA) (hY : ∀ (w : World) (h : Heap), YP w h → (K w.params).In h)
    (F : ∀ (w : World) (mg : Str → Option Value) (fa : Addr) (h : Heap), (K w.params).In h → h.Ns mainGlobals mg → mg d.name = some (.ref fa) → LamEnd l q w (K w.params) k n x mg fa) :
    PySem.W.WalkO q loose XP YP l.row.toRowW d [] (fun f vs => PySem.call f vs) := by
  refine Att.attach_callB hn hdf fun w s₀ s₁ mg mb fa o pm cd doc a vs ns G Y ho hd hcd hmg hobj hints hlen hbits hg => ?_
  have KX := hY w _ Y
  obtain ⟨fd, cs, sp, hT, nT, hb, hsp, hF⟩ := (F w mg fa _ KX G.T.g hmg).ex
  have key : ∀ p ∈ cs, PySem.W.CodeHd s₁.heap p.1 p.2 ∧ s₁.heap.get? p.2 = some (PySem.W.tabObj #[]) := fun p hp => by
    obtain ⟨y, d', h1, h2⟩ := hT p hp
    exact PySem.W.tab_of G.T KX h1 h2
  exact LamX.law_callTs KX G.T.g G.T.b G.T.builtins G.T.nolimit hg (fun p hp => (key p hp).2) nT (fun p hp => (key p hp).1) G.T.bmain hobj hints (Nat.le_trans hlen hn2) hr hF hb (fun H hH hS => hsp H a ns hlen hbits hH hS) fun H e s' z => z
/-! ### the start: the script, and the tables among what is changed -/
section
variable {K : PySem.W.Frag} {B H : Hp} {a : Addr} {ns : List Int} {Ts : List (Addr × Str)}
theorem tabs_ok (nd : (Ts.map (·.1)).Nodup) (hH : ∀ p ∈ Ts, H p.1 = some (.tbl #[])) (ex : Ex B H) (hB : ∀ p ∈ Ts, B p.1 = none) (nt : ∀ (a : Addr) (ps : Array Value), B a ≠ some (.tbl ps)) :
    Ok K B H (Ts.map (·.1)) (Ts.map fun p => Dat.tab p.1 p.2) := by
  have key : ∀ (k : Nat) (b : Addr) (s : Dat), (Ts.map (·.1))[k]? = some b → (Ts.map fun p => Dat.tab p.1 p.2)[k]? = some s → ∃ q, s = .tab b q ∧ (b, q) ∈ Ts := fun k b s h1 h2 => by
    rw [List.getElem?_map, Option.map_eq_some_iff] at h1 h2
    obtain ⟨p, hp, rfl⟩ := h1
    obtain ⟨p2, hp2, rfl⟩ := h2
    rw [hp] at hp2; cases hp2
    exact ⟨p.2, rfl, List.mem_of_getElem? hp⟩
  refine ⟨ex, by simp, fun k b s h1 h2 => ?_, nd, fun k b s o h1 h2 h3 => ?_, nt, fun k P q h => ?_⟩
  · obtain ⟨q, rfl, hm⟩ := key k b s h1 h2
    refine ⟨hB _ hm, _, hH _ hm, trivial, fun pos cv h => ?_⟩
    cases h
  · obtain ⟨q, rfl, hm⟩ := key k b s h1 h2
    rw [hH _ hm] at h3
    cases h3
    exact fun _ _ _ _ z => nomatch z
  · rw [List.getElem?_map, Option.map_eq_some_iff] at h
    obtain ⟨p, hp, e⟩ := h
    cases e
    rw [List.getElem?_map, hp]; rfl
theorem tabs_start (nd : (Ts.map (·.1)).Nodup) (hH : ∀ p ∈ Ts, H p.1 = some (.tbl #[])) (hS : SqL K H a (ns.map V.int)) :
    ∃ B, Ok K B H (Ts.map (·.1)) (Ts.map fun p => Dat.tab p.1 p.2) ∧ Rep K B (.ref a) (.scr ns) := by
  rcases hS with h | h
  · have nt : ∀ ps : Array Value, H a ≠ some (.tbl ps) := fun ps e => by
      rcases h with h | ⟨o, h⟩ <;> rw [e] at h <;> cases h
    refine ⟨fun b => if b = a then H a else none, tabs_ok nd hH (fun b o e => ?_) (fun p hp => ?_) (fun b ps e => ?_), .scr (.inl ?_)⟩
    · split at e
      · rename_i hb
        rw [hb]; exact e
      · cases e
    · split
      · rename_i e
        rw [← e, hH p hp] at nt
        exact absurd rfl (nt _)
      · rfl
    · split at e
      · exact nt ps e
      · cases e
    · unfold Rd at h ⊢
      have e : (fun b => if b = a then H a else none) a = H a := if_pos rfl
      rw [e]
      exact h
  · exact ⟨fun _ => none, tabs_ok nd hH (fun b o e => by cases e) (fun _ _ => rfl) (fun _ _ e => by cases e), .scr (.inr h)⟩
theorem all_tabs : AllTabs Ts (Ts.map fun p => Dat.tab p.1 p.2) := by
  refine ⟨fun p hp => ?_, fun k P q h => ?_⟩
  · obtain ⟨k, hk⟩ := List.getElem?_of_mem hp
    exact ⟨k, by rw [List.getElem?_map, hk]; rfl⟩
  · rw [List.getElem?_map, Option.map_eq_some_iff] at h
    obtain ⟨p, hp, e⟩ := h
    cases e
    exact List.mem_of_getElem? hp
end
theorem tab_in {K : PySem.W.Frag} {x : Str} {f c P : Addr} {oc cc : Value} {od cd' : Option Addr} {fd : FuncData} {sl csl : Array (Option Value)} {vs : Array Value} (h1 : PySem.W.nsIn K mainGlobals x = some (some (.ref f))) (h2 : K.lookup f = some ⟨oc, od, .func fd, sl⟩) (h3 : fd.code = .ref c)
    (h4 : K.lookup c = some ⟨cc, cd', .fields vs, csl⟩) (h5 : (vs[11]? : Option Value) = some (.ref P)) : PySem.W.tabIn K x = some (c, P) := by
  unfold PySem.W.tabIn
  rw [h1]
  dsimp only
  rw [h2]
  dsimp only
  rw [h3]
  dsimp only
  rw [h4]
  dsimp only
  rw [h5]
theorem exm_of {K : PySem.W.Frag} {C D : Addr} {b : Bool} (be : PySem.W.subIn K (.ref D) (.type "BaseException") = some true) (ic : PySem.W.isClsIn K D = true) (ty : PySem.W.typeIn K (.ref D) = some (.type "type")) (sb : PySem.W.subIn K (.ref C) (.ref D) = some b) :
    PySem.W.exmOne K (.ref C) (.ref D) = some b := by
  unfold PySem.W.exmOne
  rw [be, if_pos (by simp)]
  unfold PySem.W.kitCls
  have h4 : (PySem.W.clsIn K D).isSome = true := ic
  dsimp only
  rw [h4, ty, if_pos (by simp), sb]
theorem rec_of {q : Program} {y : Str} (h : ((recsOf q).find? fun e => e.name == y).isSome = true) : ∃ d : DefRec, (recsOf q).find? (fun e => e.name == y) = some d := Option.isSome_iff_exists.mp h
end RW

set_option Elab.async false
set_option linter.all false
set_option maxRecDepth 100000
set_option maxHeartbeats 4000000
namespace N87
open PySem PySem.Spec PyProof.Rows L2 RW

/-! the text by places -/
def top (i : Nat) : Stmt := PySem.Challenge.pw_rampworks_k87_errors_of_texts.main.body.getD i (.Pass ⟨0, 0, 0, 0⟩)
abbrev s_ParseErroru_initu : Stmt := inClass (top 6) 0
theorem sc_ParseErroru_initu : FnScope ["self", "spot"] ["self", "spot"] (defScope s_ParseErroru_initu) := ⟨rfl, rfl, rfl, by decide +kernel, rfl, by decide +kernel, by decide +kernel⟩
abbrev s_are_short_rows : Stmt := top 14
theorem sc_are_short_rows : FnScope ["value", "most_rows", "most_length", "length", "row", "x"] ["value", "most_rows", "most_length"] (defScope s_are_short_rows) := ⟨rfl, rfl, rfl, by decide +kernel, rfl, by decide +kernel, by decide +kernel⟩
abbrev s_are_ascending : Stmt := top 15
theorem sc_are_ascending : FnScope ["values", "last", "value"] ["values"] (defScope s_are_ascending) := ⟨rfl, rfl, rfl, by decide +kernel, rfl, by decide +kernel, by decide +kernel⟩
abbrev s_is_lot : Stmt := top 19
theorem sc_is_lot : FnScope ["value"] ["value"] (defScope s_is_lot) := ⟨rfl, rfl, rfl, by decide +kernel, rfl, by decide +kernel, by decide +kernel⟩
abbrev s_need_lot : Stmt := top 20
theorem sc_need_lot : FnScope ["lot"] ["lot"] (defScope s_need_lot) := ⟨rfl, rfl, rfl, by decide +kernel, rfl, by decide +kernel, by decide +kernel⟩
abbrev s_need_network : Stmt := top 29
theorem sc_need_network : FnScope ["network"] ["network"] (defScope s_need_network) := ⟨rfl, rfl, rfl, by decide +kernel, rfl, by decide +kernel, by decide +kernel⟩
abbrev s_is_reading : Stmt := top 31
theorem sc_is_reading : FnScope ["value"] ["value"] (defScope s_is_reading) := ⟨rfl, rfl, rfl, by decide +kernel, rfl, by decide +kernel, by decide +kernel⟩
abbrev s_need_reading : Stmt := top 32
theorem sc_need_reading : FnScope ["reading"] ["reading"] (defScope s_need_reading) := ⟨rfl, rfl, rfl, by decide +kernel, rfl, by decide +kernel, by decide +kernel⟩
abbrev s_row_line : Stmt := top 38
theorem sc_row_line : FnScope ["row", "x"] ["row"] (defScope s_row_line) := ⟨rfl, rfl, rfl, by decide +kernel, rfl, by decide +kernel, by decide +kernel⟩
abbrev s_text_of : Stmt := top 39
theorem sc_text_of : FnScope ["lines"] ["lines"] (defScope s_text_of) := ⟨rfl, rfl, rfl, by decide +kernel, rfl, by decide +kernel, by decide +kernel⟩
abbrev s_lot_text : Stmt := top 40
theorem sc_lot_text : FnScope ["lot", "point"] ["lot"] (defScope s_lot_text) := ⟨rfl, rfl, rfl, by decide +kernel, rfl, by decide +kernel, by decide +kernel⟩
abbrev s_reading_text : Stmt := top 41
theorem sc_reading_text : FnScope ["reading", "above", "below", "lines", "point"] ["reading"] (defScope s_reading_text) := ⟨rfl, rfl, rfl, by decide +kernel, rfl, by decide +kernel, by decide +kernel⟩
abbrev s_network_text : Stmt := top 42
theorem sc_network_text : FnScope ["network", "lines", "layer", "unit"] ["network"] (defScope s_network_text) := ⟨rfl, rfl, rfl, by decide +kernel, rfl, by decide +kernel, by decide +kernel⟩
abbrev s_Linesu_initu : Stmt := inClass (top 43) 0
theorem sc_Linesu_initu : FnScope ["self", "text"] ["self", "text"] (defScope s_Linesu_initu) := ⟨rfl, rfl, rfl, by decide +kernel, rfl, by decide +kernel, by decide +kernel⟩
abbrev s_Lines_line : Stmt := inClass (top 43) 1
theorem sc_Lines_line : FnScope ["self"] ["self"] (defScope s_Lines_line) := ⟨rfl, rfl, rfl, by decide +kernel, rfl, by decide +kernel, by decide +kernel⟩
abbrev s_Lines_word : Stmt := inClass (top 43) 4
theorem sc_Lines_word : FnScope ["self", "word"] ["self", "word"] (defScope s_Lines_word) := ⟨rfl, rfl, rfl, by decide +kernel, rfl, by decide +kernel, by decide +kernel⟩
abbrev s_need_text : Stmt := top 46
theorem sc_need_text : FnScope ["text"] ["text"] (defScope s_need_text) := ⟨rfl, rfl, rfl, by decide +kernel, rfl, by decide +kernel, by decide +kernel⟩
abbrev s_read_lot : Stmt := top 48
theorem sc_read_lot : FnScope ["text", "lines", "lot"] ["text"] (defScope s_read_lot) := ⟨rfl, rfl, rfl, by decide +kernel, rfl, by decide +kernel, by decide +kernel⟩
abbrev s_read_reading : Stmt := top 49
theorem sc_read_reading : FnScope ["text", "lines", "above", "below"] ["text"] (defScope s_read_reading) := ⟨rfl, rfl, rfl, by decide +kernel, rfl, by decide +kernel, by decide +kernel⟩
abbrev s_inputs_in : Stmt := top 50
theorem sc_inputs_in : FnScope ["lines", "line", "inputs"] ["lines"] (defScope s_inputs_in) := ⟨rfl, rfl, rfl, by decide +kernel, rfl, by decide +kernel, by decide +kernel⟩
abbrev s_read_network : Stmt := top 53
theorem sc_read_network : FnScope ["text", "lines", "inputs", "layers", "units", "layer", "last"] ["text"] (defScope s_read_network) := ⟨rfl, rfl, rfl, by decide +kernel, rfl, by decide +kernel, by decide +kernel⟩
abbrev s__law_pack : Stmt := top 55
theorem sc__law_pack : FnScope ["script", "spot", "cell", "great"] ["script", "spot"] (defScope s__law_pack) := ⟨rfl, rfl, rfl, by decide +kernel, rfl, by decide +kernel, by decide +kernel⟩
abbrev s__law_dealt : Stmt := top 56
theorem sc__law_dealt : FnScope ["pack", "total", "found", "one", "two"] ["pack", "total"] (defScope s__law_dealt) := ⟨rfl, rfl, rfl, by decide +kernel, rfl, by decide +kernel, by decide +kernel⟩
abbrev s__law_one_of : Stmt := top 57
theorem sc__law_one_of : FnScope ["pack", "items"] ["pack", "items"] (defScope s__law_one_of) := ⟨rfl, rfl, rfl, by decide +kernel, rfl, by decide +kernel, by decide +kernel⟩
abbrev s__law_due : Stmt := top 58
theorem sc__law_due : FnScope ["words", "word"] ["words"] (defScope s__law_due) := ⟨rfl, rfl, rfl, by decide +kernel, rfl, by decide +kernel, by decide +kernel⟩
abbrev s__law_word : Stmt := top 59
theorem sc__law_word : FnScope ["call", "error"] ["call"] (defScope s__law_word) := ⟨rfl, rfl, rfl, by decide +kernel, rfl, by decide +kernel, by decide +kernel⟩
abbrev s__law_right : Stmt := top 60
theorem sc__law_right : FnScope ["pack", "bad", "none", "odd", "shown", "told", "read"] ["pack"] (defScope s__law_right) := ⟨rfl, rfl, rfl, by decide +kernel, rfl, by decide +kernel, by decide +kernel⟩
abbrev s_law : Stmt := top 61
theorem sc_law : FnScope ["script", "spot", "pack", "told"] ["script"] (defScope s_law) := ⟨rfl, rfl, rfl, by decide +kernel, rfl, by decide +kernel, by decide +kernel⟩
structure Txt (K : PySem.W.Frag) (mg : Str → Option Value) where
  a_ParseErroru_initu : Addr
  d_ParseErroru_initu : FuncData
  F_ParseErroru_initu : Fun K "__init__" "ParseError.__init__" s_ParseErroru_initu a_ParseErroru_initu d_ParseErroru_initu
  b_ParseErroru_initu : Binds K d_ParseErroru_initu ["self", "spot"] []
  a_are_short_rows : Addr
  d_are_short_rows : FuncData
  F_are_short_rows : Fun K "are_short_rows" "are_short_rows" s_are_short_rows a_are_short_rows d_are_short_rows
  b_are_short_rows : Binds K d_are_short_rows ["value", "most_rows", "most_length"] []
  m_are_short_rows : mg "are_short_rows" = some (.ref a_are_short_rows)
  k_are_short_rows : PySem.W.keepIn K (.ref a_are_short_rows) = true
  a_are_ascending : Addr
  d_are_ascending : FuncData
  F_are_ascending : Fun K "are_ascending" "are_ascending" s_are_ascending a_are_ascending d_are_ascending
  b_are_ascending : Binds K d_are_ascending ["values"] []
  m_are_ascending : mg "are_ascending" = some (.ref a_are_ascending)
  k_are_ascending : PySem.W.keepIn K (.ref a_are_ascending) = true
  a_is_lot : Addr
  d_is_lot : FuncData
  F_is_lot : Fun K "is_lot" "is_lot" s_is_lot a_is_lot d_is_lot
  b_is_lot : Binds K d_is_lot ["value"] []
  m_is_lot : mg "is_lot" = some (.ref a_is_lot)
  k_is_lot : PySem.W.keepIn K (.ref a_is_lot) = true
  a_need_lot : Addr
  d_need_lot : FuncData
  F_need_lot : Fun K "need_lot" "need_lot" s_need_lot a_need_lot d_need_lot
  b_need_lot : Binds K d_need_lot ["lot"] []
  m_need_lot : mg "need_lot" = some (.ref a_need_lot)
  k_need_lot : PySem.W.keepIn K (.ref a_need_lot) = true
  a_need_network : Addr
  d_need_network : FuncData
  F_need_network : Fun K "need_network" "need_network" s_need_network a_need_network d_need_network
  b_need_network : Binds K d_need_network ["network"] []
  m_need_network : mg "need_network" = some (.ref a_need_network)
  k_need_network : PySem.W.keepIn K (.ref a_need_network) = true
  a_is_reading : Addr
  d_is_reading : FuncData
  F_is_reading : Fun K "is_reading" "is_reading" s_is_reading a_is_reading d_is_reading
  b_is_reading : Binds K d_is_reading ["value"] []
  m_is_reading : mg "is_reading" = some (.ref a_is_reading)
  k_is_reading : PySem.W.keepIn K (.ref a_is_reading) = true
  a_need_reading : Addr
  d_need_reading : FuncData
  F_need_reading : Fun K "need_reading" "need_reading" s_need_reading a_need_reading d_need_reading
  b_need_reading : Binds K d_need_reading ["reading"] []
  m_need_reading : mg "need_reading" = some (.ref a_need_reading)
  k_need_reading : PySem.W.keepIn K (.ref a_need_reading) = true
  a_row_line : Addr
  d_row_line : FuncData
  F_row_line : Fun K "row_line" "row_line" s_row_line a_row_line d_row_line
  b_row_line : Binds K d_row_line ["row"] []
  m_row_line : mg "row_line" = some (.ref a_row_line)
  k_row_line : PySem.W.keepIn K (.ref a_row_line) = true
  a_text_of : Addr
  d_text_of : FuncData
  F_text_of : Fun K "text_of" "text_of" s_text_of a_text_of d_text_of
  b_text_of : Binds K d_text_of ["lines"] []
  m_text_of : mg "text_of" = some (.ref a_text_of)
  k_text_of : PySem.W.keepIn K (.ref a_text_of) = true
  a_lot_text : Addr
  d_lot_text : FuncData
  F_lot_text : Fun K "lot_text" "lot_text" s_lot_text a_lot_text d_lot_text
  b_lot_text : Binds K d_lot_text ["lot"] []
  m_lot_text : mg "lot_text" = some (.ref a_lot_text)
  k_lot_text : PySem.W.keepIn K (.ref a_lot_text) = true
  a_reading_text : Addr
  d_reading_text : FuncData
  F_reading_text : Fun K "reading_text" "reading_text" s_reading_text a_reading_text d_reading_text
  b_reading_text : Binds K d_reading_text ["reading"] []
  m_reading_text : mg "reading_text" = some (.ref a_reading_text)
  k_reading_text : PySem.W.keepIn K (.ref a_reading_text) = true
  a_network_text : Addr
  d_network_text : FuncData
  F_network_text : Fun K "network_text" "network_text" s_network_text a_network_text d_network_text
  b_network_text : Binds K d_network_text ["network"] []
  m_network_text : mg "network_text" = some (.ref a_network_text)
  k_network_text : PySem.W.keepIn K (.ref a_network_text) = true
  a_Linesu_initu : Addr
  d_Linesu_initu : FuncData
  F_Linesu_initu : Fun K "__init__" "Lines.__init__" s_Linesu_initu a_Linesu_initu d_Linesu_initu
  b_Linesu_initu : Binds K d_Linesu_initu ["self", "text"] []
  a_Lines_line : Addr
  d_Lines_line : FuncData
  F_Lines_line : Fun K "line" "Lines.line" s_Lines_line a_Lines_line d_Lines_line
  b_Lines_line : Binds K d_Lines_line ["self"] []
  a_Lines_word : Addr
  d_Lines_word : FuncData
  F_Lines_word : Fun K "word" "Lines.word" s_Lines_word a_Lines_word d_Lines_word
  b_Lines_word : Binds K d_Lines_word ["self", "word"] []
  a_need_text : Addr
  d_need_text : FuncData
  F_need_text : Fun K "need_text" "need_text" s_need_text a_need_text d_need_text
  b_need_text : Binds K d_need_text ["text"] []
  m_need_text : mg "need_text" = some (.ref a_need_text)
  k_need_text : PySem.W.keepIn K (.ref a_need_text) = true
  a_read_lot : Addr
  d_read_lot : FuncData
  F_read_lot : Fun K "read_lot" "read_lot" s_read_lot a_read_lot d_read_lot
  b_read_lot : Binds K d_read_lot ["text"] []
  m_read_lot : mg "read_lot" = some (.ref a_read_lot)
  k_read_lot : PySem.W.keepIn K (.ref a_read_lot) = true
  a_read_reading : Addr
  d_read_reading : FuncData
  F_read_reading : Fun K "read_reading" "read_reading" s_read_reading a_read_reading d_read_reading
  b_read_reading : Binds K d_read_reading ["text"] []
  m_read_reading : mg "read_reading" = some (.ref a_read_reading)
  k_read_reading : PySem.W.keepIn K (.ref a_read_reading) = true
  a_inputs_in : Addr
  d_inputs_in : FuncData
  F_inputs_in : Fun K "inputs_in" "inputs_in" s_inputs_in a_inputs_in d_inputs_in
  b_inputs_in : Binds K d_inputs_in ["lines"] []
  m_inputs_in : mg "inputs_in" = some (.ref a_inputs_in)
  k_inputs_in : PySem.W.keepIn K (.ref a_inputs_in) = true
  a_read_network : Addr
  d_read_network : FuncData
  F_read_network : Fun K "read_network" "read_network" s_read_network a_read_network d_read_network
  b_read_network : Binds K d_read_network ["text"] []
  m_read_network : mg "read_network" = some (.ref a_read_network)
  k_read_network : PySem.W.keepIn K (.ref a_read_network) = true
  a__law_pack : Addr
  d__law_pack : FuncData
  F__law_pack : Fun K "_law_pack" "_law_pack" s__law_pack a__law_pack d__law_pack
  b__law_pack : Binds K d__law_pack ["script", "spot"] []
  m__law_pack : mg "_law_pack" = some (.ref a__law_pack)
  k__law_pack : PySem.W.keepIn K (.ref a__law_pack) = true
  a__law_dealt : Addr
  d__law_dealt : FuncData
  F__law_dealt : Fun K "_law_dealt" "_law_dealt" s__law_dealt a__law_dealt d__law_dealt
  b__law_dealt : Binds K d__law_dealt ["pack", "total"] []
  m__law_dealt : mg "_law_dealt" = some (.ref a__law_dealt)
  k__law_dealt : PySem.W.keepIn K (.ref a__law_dealt) = true
  a__law_one_of : Addr
  d__law_one_of : FuncData
  F__law_one_of : Fun K "_law_one_of" "_law_one_of" s__law_one_of a__law_one_of d__law_one_of
  b__law_one_of : Binds K d__law_one_of ["pack", "items"] []
  m__law_one_of : mg "_law_one_of" = some (.ref a__law_one_of)
  k__law_one_of : PySem.W.keepIn K (.ref a__law_one_of) = true
  a__law_due : Addr
  d__law_due : FuncData
  F__law_due : Fun K "_law_due" "_law_due" s__law_due a__law_due d__law_due
  b__law_due : Binds K d__law_due ["words"] []
  m__law_due : mg "_law_due" = some (.ref a__law_due)
  k__law_due : PySem.W.keepIn K (.ref a__law_due) = true
  a__law_word : Addr
  d__law_word : FuncData
  F__law_word : Fun K "_law_word" "_law_word" s__law_word a__law_word d__law_word
  b__law_word : Binds K d__law_word ["call"] []
  m__law_word : mg "_law_word" = some (.ref a__law_word)
  k__law_word : PySem.W.keepIn K (.ref a__law_word) = true
  a__law_right : Addr
  d__law_right : FuncData
  F__law_right : Fun K "_law_right" "_law_right" s__law_right a__law_right d__law_right
  b__law_right : Binds K d__law_right ["pack"] []
  m__law_right : mg "_law_right" = some (.ref a__law_right)
  k__law_right : PySem.W.keepIn K (.ref a__law_right) = true
  a_law : Addr
  d_law : FuncData
  F_law : Fun K "law" "law" s_law a_law d_law
  b_law : Binds K d_law ["script"] []
  t_MOST_INPUTS : Tok
  m_MOST_INPUTS : mg "MOST_INPUTS" = some (.int 8 t_MOST_INPUTS)
  t_BEYOND : Tok
  m_BEYOND : mg "BEYOND" = some (.int (10 ^ 60) t_BEYOND)
  t_BENEATH : Tok
  m_BENEATH : mg "BENEATH" = some (.int (-(10 ^ 60)) t_BENEATH)
  t_MOST_POINTS : Tok
  m_MOST_POINTS : mg "MOST_POINTS" = some (.int 400 t_MOST_POINTS)
  t_MOST_MEMBERS : Tok
  m_MOST_MEMBERS : mg "MOST_MEMBERS" = some (.int 8 t_MOST_MEMBERS)
  t_MOST_TEXT : Tok
  m_MOST_TEXT : mg "MOST_TEXT" = some (.int 1200000 t_MOST_TEXT)
  t_BLANKS : Tok
  m_BLANKS : mg "BLANKS" = some (.str (Str.ofString "  ") t_BLANKS)
  t_HEAD : Tok
  m_HEAD : mg "HEAD" = some (.str (Str.ofString "network ") t_HEAD)
  n_isinstance : mg "isinstance" = none
  n_int : mg "int" = none
  n_bool : mg "bool" = none
  n_tuple : mg "tuple" = none
  n_list : mg "list" = none
  n_len : mg "len" = none
  n_sum : mg "sum" = none
  n_all : mg "all" = none
  n_any : mg "any" = none
  n_zip : mg "zip" = none
  n_max : mg "max" = none
  n_min : mg "min" = none
  n_abs : mg "abs" = none
  n_range : mg "range" = none
  n_enumerate : mg "enumerate" = none
  n_reversed : mg "reversed" = none
  n_sorted : mg "sorted" = none
  n_str : mg "str" = none
  n_repr : mg "repr" = none
  n_dict : mg "dict" = none
  CL : Addr
  cl_Lines : Cls K CL
  m_Lines : mg "Lines" = some (.ref CL)
  M_Lines : Mk K CL a_Linesu_initu
  na_Lines_lines : NoAttr K CL "lines"
  na_Lines_at : NoAttr K CL "at"
  me_Lines_line : Meth K CL "line" a_Lines_line
  me_Lines_word : Meth K CL "word" a_Lines_word
  a_InvalidLot : Addr
  m_InvalidLot : mg "InvalidLot" = some (.ref a_InvalidLot)
  k_InvalidLot : PySem.W.keepIn K (.ref a_InvalidLot) = true
  be_InvalidLot : PySem.W.subIn K (.ref a_InvalidLot) (.type "BaseException") = some true
  ty_InvalidLot : PySem.W.typeIn K (.ref a_InvalidLot) = some (.type "type")
  x_InvalidLot : PySem.W.excIn K a_InvalidLot [.type "ValueError", .type "Exception", .type "BaseException", .type "object"] "ValueError.__new__" = true
  a_InvalidReading : Addr
  m_InvalidReading : mg "InvalidReading" = some (.ref a_InvalidReading)
  k_InvalidReading : PySem.W.keepIn K (.ref a_InvalidReading) = true
  be_InvalidReading : PySem.W.subIn K (.ref a_InvalidReading) (.type "BaseException") = some true
  ty_InvalidReading : PySem.W.typeIn K (.ref a_InvalidReading) = some (.type "type")
  x_InvalidReading : PySem.W.excIn K a_InvalidReading [.type "ValueError", .type "Exception", .type "BaseException", .type "object"] "ValueError.__new__" = true
  a_InvalidNetwork : Addr
  m_InvalidNetwork : mg "InvalidNetwork" = some (.ref a_InvalidNetwork)
  k_InvalidNetwork : PySem.W.keepIn K (.ref a_InvalidNetwork) = true
  be_InvalidNetwork : PySem.W.subIn K (.ref a_InvalidNetwork) (.type "BaseException") = some true
  ty_InvalidNetwork : PySem.W.typeIn K (.ref a_InvalidNetwork) = some (.type "type")
  x_InvalidNetwork : PySem.W.excIn K a_InvalidNetwork [.type "ValueError", .type "Exception", .type "BaseException", .type "object"] "ValueError.__new__" = true
  a_InvalidText : Addr
  m_InvalidText : mg "InvalidText" = some (.ref a_InvalidText)
  k_InvalidText : PySem.W.keepIn K (.ref a_InvalidText) = true
  be_InvalidText : PySem.W.subIn K (.ref a_InvalidText) (.type "BaseException") = some true
  ty_InvalidText : PySem.W.typeIn K (.ref a_InvalidText) = some (.type "type")
  x_InvalidText : PySem.W.excIn K a_InvalidText [.type "ValueError", .type "Exception", .type "BaseException", .type "object"] "ValueError.__new__" = true
  a_ParseError : Addr
  m_ParseError : mg "ParseError" = some (.ref a_ParseError)
  k_ParseError : PySem.W.keepIn K (.ref a_ParseError) = true
  be_ParseError : PySem.W.subIn K (.ref a_ParseError) (.type "BaseException") = some true
  ty_ParseError : PySem.W.typeIn K (.ref a_ParseError) = some (.type "type")
  ox_ParseError : OexC K a_ParseError
  oi_ParseError : PySem.W.findIn K (.ref a_ParseError) "__init__" = some (some (.ref a_ParseErroru_initu))
  ot_ParseError : PySem.W.typeIn K (.ref a_ParseErroru_initu) = some (.type "function")
  nf_ParseError : PySem.W.findIn K (.ref a_ParseError) "spot" = some none
  xf_ParseError : XfC K a_ParseError
  em_InvalidLot_InvalidLot : PySem.W.exmOne K (.ref a_InvalidLot) (.ref a_InvalidLot) = some true
  em_InvalidLot_InvalidReading : PySem.W.exmOne K (.ref a_InvalidLot) (.ref a_InvalidReading) = some false
  em_InvalidLot_InvalidNetwork : PySem.W.exmOne K (.ref a_InvalidLot) (.ref a_InvalidNetwork) = some false
  em_InvalidLot_InvalidText : PySem.W.exmOne K (.ref a_InvalidLot) (.ref a_InvalidText) = some false
  em_InvalidLot_ParseError : PySem.W.exmOne K (.ref a_InvalidLot) (.ref a_ParseError) = some false
  em_InvalidReading_InvalidLot : PySem.W.exmOne K (.ref a_InvalidReading) (.ref a_InvalidLot) = some false
  em_InvalidReading_InvalidReading : PySem.W.exmOne K (.ref a_InvalidReading) (.ref a_InvalidReading) = some true
  em_InvalidReading_InvalidNetwork : PySem.W.exmOne K (.ref a_InvalidReading) (.ref a_InvalidNetwork) = some false
  em_InvalidReading_InvalidText : PySem.W.exmOne K (.ref a_InvalidReading) (.ref a_InvalidText) = some false
  em_InvalidReading_ParseError : PySem.W.exmOne K (.ref a_InvalidReading) (.ref a_ParseError) = some false
  em_InvalidNetwork_InvalidLot : PySem.W.exmOne K (.ref a_InvalidNetwork) (.ref a_InvalidLot) = some false
  em_InvalidNetwork_InvalidReading : PySem.W.exmOne K (.ref a_InvalidNetwork) (.ref a_InvalidReading) = some false
  em_InvalidNetwork_InvalidNetwork : PySem.W.exmOne K (.ref a_InvalidNetwork) (.ref a_InvalidNetwork) = some true
  em_InvalidNetwork_InvalidText : PySem.W.exmOne K (.ref a_InvalidNetwork) (.ref a_InvalidText) = some false
  em_InvalidNetwork_ParseError : PySem.W.exmOne K (.ref a_InvalidNetwork) (.ref a_ParseError) = some false
  em_InvalidText_InvalidLot : PySem.W.exmOne K (.ref a_InvalidText) (.ref a_InvalidLot) = some false
  em_InvalidText_InvalidReading : PySem.W.exmOne K (.ref a_InvalidText) (.ref a_InvalidReading) = some false
  em_InvalidText_InvalidNetwork : PySem.W.exmOne K (.ref a_InvalidText) (.ref a_InvalidNetwork) = some false
  em_InvalidText_InvalidText : PySem.W.exmOne K (.ref a_InvalidText) (.ref a_InvalidText) = some true
  em_InvalidText_ParseError : PySem.W.exmOne K (.ref a_InvalidText) (.ref a_ParseError) = some false
  em_ParseError_InvalidLot : PySem.W.exmOne K (.ref a_ParseError) (.ref a_InvalidLot) = some false
  em_ParseError_InvalidReading : PySem.W.exmOne K (.ref a_ParseError) (.ref a_InvalidReading) = some false
  em_ParseError_InvalidNetwork : PySem.W.exmOne K (.ref a_ParseError) (.ref a_InvalidNetwork) = some false
  em_ParseError_InvalidText : PySem.W.exmOne K (.ref a_ParseError) (.ref a_InvalidText) = some false
  em_ParseError_ParseError : PySem.W.exmOne K (.ref a_ParseError) (.ref a_ParseError) = some true
  c__law_right : Addr
  P__law_right : Addr
  lk__law_right : ∃ (oc : Value) (od : Option Addr) (kV doc pm : Value) (an : Option Addr) (ct : Value) (osl : Array (Option Value)), d__law_right = PySem.W.fnOf "_law_right" "_law_right" (defArgs s__law_right) (defBody s__law_right) (defScope s__law_right) .none kV doc pm an (.ref c__law_right) ct ∧ K.lookup a__law_right = some ⟨oc, od, .func d__law_right, osl⟩ ∧ PySem.W.codeIn K (.ref c__law_right) "_law_right" = true
  c_law : Addr
  P_law : Addr
  lk_law : ∃ (oc : Value) (od : Option Addr) (kV doc pm : Value) (an : Option Addr) (ct : Value) (osl : Array (Option Value)), d_law = PySem.W.fnOf "law" "law" (defArgs s_law) (defBody s_law) (defScope s_law) .none kV doc pm an (.ref c_law) ct ∧ K.lookup a_law = some ⟨oc, od, .func d_law, osl⟩ ∧ PySem.W.codeIn K (.ref c_law) "law" = true
  pne : ([P__law_right, P_law] : List Addr).Nodup
  aN : Addr
  m_Network : mg "Network" = some (.ref aN)
  kt : RW.KtC K aN
end N87

set_option Elab.async false
set_option linter.all false
set_option maxRecDepth 100000
set_option maxHeartbeats 4000000
namespace N87
open PySem PySem.Spec PyProof.Rows L2 RW

def gASR (ss : List Sl) (S : List Dat) (r : Dat) (S' : List Dat) : Prop := ∃ (v : Dat) (mr ml : Int), ss = [.d v, .d (.int mr), .d (.int ml)] ∧ KD v ∧ r = .bl (asrB v mr ml) ∧ S' = S
def gAsc (ss : List Sl) (S : List Dat) (r : Dat) (S' : List Dat) : Prop := ∃ (n : Nat) (rows : List (List Int)), ss = [.d (.tup (rows.map fun r => Dat.tup (r.map Dat.int)))] ∧ rows ≠ [] ∧ (∀ x ∈ rows, x.length = n) ∧ r = .bl (ascB rows) ∧ S' = S
def gLotB (ss : List Sl) (S : List Dat) (r : Dat) (S' : List Dat) : Prop := ∃ v : Dat, ss = [.d v] ∧ KD v ∧ r = .bl (lotB v) ∧ S' = S
def gRdB (ss : List Sl) (S : List Dat) (r : Dat) (S' : List Dat) : Prop := ∃ v : Dat, ss = [.d v] ∧ KD v ∧ r = .bl (rdB v) ∧ S' = S
def gNd (b : Dat → Bool) (C : Addr) (ss : List Sl) (S : List Dat) (o : Out) (S' : List Dat) : Prop := ∃ v : Dat, ss = [.d v] ∧ KD v ∧ o = (if b v = true then .val .non else .exc C none) ∧ S' = S
theorem at0 {x : Dat} {xs : List Dat} : atI (x :: xs) 0 = some x := by simp [atI, ixN]
theorem at1 {x y : Dat} {xs : List Dat} : atI (x :: y :: xs) 1 = some y := by
  have h : (1 : Int) < (x :: y :: xs).length := by rw [List.length_cons, List.length_cons]; omega
  unfold atI ixN
  rw [if_pos (by decide), if_pos h]; rfl
theorem cut1 {xs : List Dat} : RW.cutD xs (some 1) none = xs.drop 1 := by
  unfold RW.cutD
  have e2 : HT.sIx xs.length xs.length none = xs.length := rfl
  have e1 : HT.sIx xs.length 0 (some 1) = min 1 xs.length := rfl
  rw [e1, e2]
  cases xs with
  | nil => rfl
  | cons x r =>
    rw [show min 1 (x :: r).length = 1 by simp]
    exact List.take_of_length_le (by simp)
theorem kd_inn {xs : List Dat} (h : KD (.tup xs)) : ∀ d ∈ xs, KD d := by cases h; assumption
theorem cd_lenX {K : PySem.W.Frag} {S : List Dat} {v : Dat} (h : isTupD v = true) : CallD K (rLenD K) [.d v] S (.int (lenD v)) S := by
  cases v <;> first
    | (simp [isTupD] at h; done)
    | exact cd_len .tup
section
variable {P : Program} {w : World} {K : PySem.W.Frag} {mg : Str → Option Value} {base : Heap}

theorem ok_are_short_rows (T : Txt K mg) : FnOk P w K mg base CX0 1 T.a_are_short_rows T.d_are_short_rows ["value", "most_rows", "most_length"] (SpD K (gASR)) := by
  refine T.F_are_short_rows.ok sc_are_short_rows (spd_len (k := 3) fun ss S r S' hg => ?_) (fun cdv A outer s H vs Q E hr h => ⟨_, (pss_cons (ps_if (PW.pt (pw_or (pt_not (pt_truK K (pe_callB call_isi (by rfl) T.n_isinstance (by decide +kernel) (pa_cons (pv 0) (pa_cons (pe_bltn (v := .ty "tuple") (by rfl) T.n_tuple (by decide +kernel) rfl) pa_nil))))) (pw_or1 (pt_not (pt_chain op_le op_le pe_int (pe_callB (call_lenK K) (by rfl) T.n_len (by decide +kernel) (pa_cons (pv 0) pa_nil)) (pv 1)))))) (pss_one (ps_ret pe_bl)) pss_nil) (pss_cons (ps_if (PW.pt (pw_or (pt_not (pt_truK K (pe_callB call_isi (by rfl) T.n_isinstance (by decide +kernel) (pa_cons (pe_ix (ix_seqK K) (pv 0) pe_int (fun _ _ => rfl)) (pa_cons (pe_bltn (v := .ty "tuple") (by rfl) T.n_tuple (by decide +kernel) rfl) pa_nil))))) (pw_or1 (pt_not (pt_chain op_le op_le pe_int (pe_callB (call_lenK K) (by rfl) T.n_len (by decide +kernel) (pa_cons (pe_ix (ix_seqK K) (pv 0) pe_int (fun _ _ => rfl)) pa_nil)) (pv 2)))))) (pss_one (ps_ret pe_bl)) pss_nil) (pss_cons (ps_set (i := 3) sc_are_short_rows.nd rfl (by first | exact Or.inl rfl | exact Or.inr rfl) (pe_callB (call_lenK K) (by rfl) T.n_len (by decide +kernel) (pa_cons (pe_ix (ix_seqK K) (pv 0) pe_int (fun _ _ => rfl)) pa_nil))) (pss_cons (ps_for PassesOwn.never rfl (pi_seqK K (pv 0)) (pg_name (i := 4) sc_are_short_rows.nd rfl (by first | exact Or.inl rfl | exact Or.inr rfl)) (pss_cons (ps_if (PW.pt (pw_or (pt_not (pt_truK K (pe_callB call_isi (by rfl) T.n_isinstance (by decide +kernel) (pa_cons (pv 4) (pa_cons (pe_bltn (v := .ty "tuple") (by rfl) T.n_tuple (by decide +kernel) rfl) pa_nil))))) (pw_or1 (pt_cmpR op_ne (pe_callB (call_lenK K) (by rfl) T.n_len (by decide +kernel) (pa_cons (pv 4) pa_nil)) (pv 3) (nomark _))))) (pss_one (ps_ret pe_bl)) pss_nil) (pss_one (ps_for PassesOwn.never rfl (pi_seqK K (pv 4)) (pg_name (i := 5) sc_are_short_rows.nd rfl (by first | exact Or.inl rfl | exact Or.inr rfl)) (pss_one (ps_if (PW.pt (pw_or (pt_not (pt_truK K (pe_callB call_isi (by rfl) T.n_isinstance (by decide +kernel) (pa_cons (pv 5) (pa_cons (pe_bltn (v := .ty "int") (by rfl) T.n_int (by decide +kernel) rfl) pa_nil))))) (pw_or (pt_cmpR op_isX (pv 5) pe_bl (nomark _)) (pw_or (pt_cmpR op_isX (pv 5) pe_bl (nomark _)) (pw_or (pt_cmpR op_le (pv 5) (pe_glob (v := .int (-(10 ^ 60))) rfl T.m_BENEATH ⟨_, rfl⟩) (nomark _)) (pw_or1 (pt_cmpR op_ge (pv 5) (pe_glob (v := .int (10 ^ 60)) rfl T.m_BEYOND ⟨_, rfl⟩) (nomark _)))))))) (pss_one (ps_ret pe_bl)) pss_nil)))))) (pss_one (ps_ret pe_bl)))))), sp_body h fun ss S r S' hg => ?_⟩)
  · obtain ⟨v, mr, ml, rfl, _⟩ := hg; rfl
  · obtain ⟨v, mr, ml, rfl, hv, rfl, rfl⟩ := hg
    have hT : EvT K _ [some (.d v), some (.d (.int mr)), some (.d (.int ml)), none, none, none] S' (!isTupD v) S' := et_not (et_bl (ev_cb (ea_cons (ev_var (i := 0) rfl) (ea_cons ev_ty ea_nil)) (ck_tup hv)))
    by_cases ht : isTupD v = true
    case neg =>
      have ht : isTupD v = false := by simpa using ht
      rw [ht] at hT
      have e : asrB v mr ml = false := by cases v <;> first | rfl | (simp [isTupD] at ht)
      rw [e]
      refine sp_ifq (b := true) (et_orP (a := true) (b := false) hT fun h => by cases h) (fun _ => sp_retq (sp_ret ev_bl ⟨rfl, List.take_length⟩)) (fun h => by cases h)
    case pos =>
      rw [ht] at hT
      obtain ⟨xs, rfl⟩ : ∃ xs, v = .tup xs := by cases v <;> first | exact ⟨_, rfl⟩ | (simp [isTupD] at ht)
      have hin := kd_inn hv
      have hC := et_not (et_test (ev_chain (K := K) (env := [some (.d (.tup xs)), some (.d (.int mr)), some (.d (.int ml)), none, none, none]) (S := S') (ev_int (i := 1)) (ev_cb (ea_cons (ev_var (i := 0) rfl) ea_nil) (cd_len .tup)) (o_le (K := K) (i := 1) (j := xs.length)) (fun _ => ev_var (i := 1) rfl) (fun _ => o_le (K := K) (i := xs.length) (j := mr))))
      by_cases hc : (decide ((1 : Int) ≤ xs.length) && decide ((xs.length : Int) ≤ mr)) = true
      case neg =>
        have hc : (decide ((1 : Int) ≤ xs.length) && decide ((xs.length : Int) ≤ mr)) = false := by simpa using hc
        rw [hc] at hC
        have e : asrB (.tup xs) mr ml = false := by
          cases xs with
          | nil => rfl
          | cons r0 rs =>
            unfold asrB
            rw [show decide ((1 : Int) ≤ (r0 :: rs).length) = true from decide_eq_true (by rw [List.length_cons]; omega), Bool.true_and] at hc
            show (decide (((r0 :: rs).length : Int) ≤ mr) && _) = false
            rw [hc]; rfl
        rw [e]
        exact sp_ifq (b := true) (et_orP (a := false) (b := true) hT fun _ => hC) (fun _ => sp_retq (sp_ret ev_bl ⟨rfl, List.take_length⟩)) (fun h => by cases h)
      case pos =>
        rw [hc] at hC
        refine sp_ifq (b := false) (et_orP (a := false) (b := false) hT fun _ => hC) (fun h => by cases h) fun _ => sp_nextq ?_
        clear hT hC
        cases xs with
        | nil => simp at hc
        | cons r0 rs =>
          rw [Bool.and_eq_true] at hc
          have h0 := hin r0 List.mem_cons_self
          have hT : EvT K _ [some (.d (.tup (r0 :: rs))), some (.d (.int mr)), some (.d (.int ml)), none, none, none] S' (!isTupD r0) S' := et_not (et_bl (ev_cb (ea_cons (ev_op (ev_var (i := 0) rfl) (ev_int (i := 0)) (op2_ix (d := r0) .tup at0)) (ea_cons ev_ty ea_nil)) (ck_tup h0)))
          have eq0 : asrB (.tup (r0 :: rs)) mr ml = (isTupD r0 && (decide (1 ≤ lenD r0) && decide ((lenD r0 : Int) ≤ ml)) && (r0 :: rs).all (rowB (lenD r0))) := by
            unfold asrB
            show (decide (((r0 :: rs).length : Int) ≤ mr) && _) = _
            rw [hc.2, Bool.true_and]
          rw [eq0]
          by_cases ht : isTupD r0 = true
          case neg =>
            have ht : isTupD r0 = false := by simpa using ht
            rw [ht] at hT ⊢
            exact sp_ifq (b := true) (et_orP (a := true) (b := false) hT fun h => by cases h) (fun _ => sp_retq (sp_ret ev_bl ⟨rfl, List.take_length⟩)) (fun h => by cases h)
          case pos =>
            have hC := et_not (et_test (ev_chain (K := K) (env := [some (.d (.tup (r0 :: rs))), some (.d (.int mr)), some (.d (.int ml)), none, none, none]) (S := S') (ev_int (i := 1)) (ev_cb (ea_cons (ev_op (ev_var (i := 0) rfl) (ev_int (i := 0)) (op2_ix (d := r0) .tup at0)) ea_nil) (cd_lenX ht)) (o_le (K := K) (i := 1) (j := lenD r0)) (fun _ => ev_var (i := 2) rfl) (fun _ => o_le (K := K) (i := lenD r0) (j := ml))))
            rw [ht] at hT ⊢
            have e1 : decide ((1 : Int) ≤ (lenD r0 : Int)) = decide (1 ≤ lenD r0) := by
              by_cases h : 1 ≤ lenD r0
              · rw [decide_eq_true h, decide_eq_true (by omega)]
              · rw [decide_eq_false h, decide_eq_false (by omega)]
            rw [e1] at hC
            by_cases hc2 : (decide (1 ≤ lenD r0) && decide ((lenD r0 : Int) ≤ ml)) = true
            case neg =>
              have hc2 : (decide (1 ≤ lenD r0) && decide ((lenD r0 : Int) ≤ ml)) = false := by simpa using hc2
              rw [hc2] at hC ⊢
              exact sp_ifq (b := true) (et_orP (a := false) (b := true) hT fun _ => hC) (fun _ => sp_retq (sp_ret ev_bl ⟨rfl, List.take_length⟩)) (fun h => by cases h)
            case pos =>
              rw [hc2] at hC ⊢
              refine sp_ifq (b := false) (et_orP (a := false) (b := false) hT fun _ => hC) (fun h => by cases h) fun _ => sp_nextq ?_
              refine sp_set (ev_cb (ea_cons (ev_op (ev_var rfl) ev_int (op2_ix (d := r0) .tup at0)) ea_nil) (cd_lenX ht)) ?_
              generalize hn : lenD r0 = n
              show SP K _ _ _ _ _
              refine sp_seq (P' := { nx := fun env' S2 => S2 = S' ∧ (r0 :: rs).all (rowB n) = true ∧ ∃ o1 o2, env' = [some (.d (.tup (r0 :: rs))), some (.d (.int mr)), some (.d (.int ml)), some (.d (.int n)), o1, o2] })
                (sp_for (it_tup (ev_var rfl)) (fun i env' S2 => S2 = S' ∧ ((r0 :: rs).take i).all (rowB n) = true ∧ ∃ o1 o2, env' = [some (.d (.tup (r0 :: rs))), some (.d (.int mr)), some (.d (.int ml)), some (.d (.int n)), o1, o2]) ⟨rfl, rfl, none, none, rfl⟩ (fun _ _ _ _ _ _ _ _ _ => trivial) ?_ ?_) ?_
              · rintro i row env' S2 hrow ⟨rfl, hall, o1, o2, rfl⟩
                have hk := hin row (List.mem_of_getElem? hrow)
                refine ⟨[4], fun env => env.set 4 (some (.d row)), tg_name, ?_⟩
                have hl := (List.getElem?_eq_some_iff.mp hrow).1
                have er : (r0 :: rs)[i] = row := (List.getElem?_eq_some_iff.mp hrow).2
                have bad : rowB n row = false → (r0 :: rs).all (rowB n) = false := fun h => by
                  rw [List.all_eq_false]
                  exact ⟨row, List.mem_of_getElem? hrow, by rw [h]; decide⟩
                have hT : EvT K _ [some (.d (.tup (r0 :: rs))), some (.d (.int mr)), some (.d (.int ml)), some (.d (.int n)), some (.d row), o2] S2 (!isTupD row) S2 := et_not (et_bl (ev_cb (ea_cons (ev_var (i := 4) rfl) (ea_cons ev_ty ea_nil)) (ck_tup hk)))
                by_cases ht : isTupD row = true
                case neg =>
                  have ht : isTupD row = false := by simpa using ht
                  rw [ht] at hT
                  have e : rowB n row = false := by cases row <;> first | rfl | (simp [isTupD] at ht)
                  exact sp_ifq (b := true) (et_orP (a := true) (b := false) hT fun h => by cases h) (fun _ => sp_retq (sp_ret ev_bl ⟨by rw [bad e]; rfl, List.take_length⟩)) (fun h => by cases h)
                case pos =>
                  have hC := et_test (ev_op (K := K) (env := [some (.d (.tup (r0 :: rs))), some (.d (.int mr)), some (.d (.int ml)), some (.d (.int n)), some (.d row), o2]) (S := S2) (ev_cb (ea_cons (ev_var (i := 4) rfl) ea_nil) (cd_lenX ht)) (ev_var (i := 3) rfl) (op2_ne_int (K := K) (i := (lenD row : Int)) (j := (n : Int))))
                  rw [ht] at hT
                  obtain ⟨ys, rfl⟩ : ∃ ys, row = .tup ys := by cases row <;> first | exact ⟨_, rfl⟩ | (simp [isTupD] at ht)
                  by_cases hlen : ys.length = n
                  case neg =>
                    have e : rowB n (.tup ys) = false := by show (decide (ys.length = n) && ys.all shD) = false; rw [decide_eq_false hlen]; rfl
                    refine sp_ifq (b := true) (et_orP (a := false) (b := true) hT fun _ => hC.to ?_) (fun _ => sp_retq (sp_ret ev_bl ⟨by rw [bad e]; rfl, List.take_length⟩)) (fun h => by cases h)
                    show (!decide _) = true
                    rw [decide_eq_false (by show ¬ ((ys.length : Int) = n); omega)]; rfl
                  case pos =>
                    refine sp_ifq (b := false) (et_orP (a := false) (b := false) hT fun _ => hC.to ?_) (fun h => by cases h) fun _ => sp_nextq ?_
                    · show (!decide _) = false
                      rw [decide_eq_true (by show (ys.length : Int) = n; omega)]; rfl
                    · have hys := kd_inn hk
                      refine (sp_for (it_tup (ev_var rfl)) (fun j env' S3 => S3 = S2 ∧ (ys.take j).all shD = true ∧ ∃ o2, env' = [some (.d (.tup (r0 :: rs))), some (.d (.int mr)), some (.d (.int ml)), some (.d (.int n)), some (.d (.tup ys)), o2]) ⟨rfl, rfl, o2, rfl⟩ (fun _ _ _ _ _ _ _ _ _ => trivial) ?_ ?_)
                      · rintro j x env' S3 hx ⟨rfl, hal, o3, rfl⟩
                        refine ⟨[5], fun env => env.set 5 (some (.d x)), tg_name, ?_⟩
                        have hB := et_bad (K := K) (S := S3) (i := 5) (env := [some (.d (.tup (r0 :: rs))), some (.d (.int mr)), some (.d (.int ml)), some (.d (.int n)), some (.d (.tup ys)), some (.d x)]) (hys x (List.mem_of_getElem? hx)) rfl
                        have hlx := (List.getElem?_eq_some_iff.mp hx).1
                        have ex : ys[j] = x := (List.getElem?_eq_some_iff.mp hx).2
                        cases hs : shD x with
                        | false =>
                          rw [hs] at hB
                          refine sp_if (b := true) hB (fun _ => sp_ret ev_bl ⟨?_, List.take_length⟩) (fun h => by cases h)
                          have e : rowB n (.tup ys) = false := by
                            show (decide (ys.length = n) && ys.all shD) = false
                            rw [decide_eq_true hlen, Bool.true_and, List.all_eq_false]
                            exact ⟨x, List.mem_of_getElem? hx, by rw [hs]; decide⟩
                          rw [bad e]; rfl
                        | true =>
                          rw [hs] at hB
                          refine sp_if (b := false) hB (fun h => by cases h) fun _ => sp_next ⟨rfl, ?_, _, rfl⟩
                          rw [List.take_succ_eq_append_getElem hlx, List.all_append, hal, ex]
                          simp [hs]
                      · rintro env' S3 ⟨rfl, hal, o3, rfl⟩
                        refine ⟨rfl, ?_, _, _, rfl⟩
                        rw [List.take_length] at hal
                        rw [List.take_succ_eq_append_getElem hl, List.all_append, hall, er]
                        simp [rowB, hlen, hal]
              · rintro env' S2 ⟨rfl, hall, o1, o2, rfl⟩
                rw [List.take_length] at hall
                exact ⟨rfl, hall, o1, o2, rfl⟩
              · rintro env' S2 ⟨rfl, hall, o1, o2, rfl⟩
                exact sp_ret ev_bl ⟨by rw [hall]; rfl, List.take_length⟩
end
end N87

set_option Elab.async false
set_option linter.all false
set_option maxRecDepth 100000
set_option maxHeartbeats 4000000
namespace N87
open PySem PySem.Spec PyProof.Rows L2 RW

theorem asc_at : ∀ {rows : List (List Int)} {i : Nat} {x y : List Int}, rows[i]? = some x → rows[i + 1]? = some y → RwS.lx x y = false → ascB rows = false
  | [], _, _, _, h, _, _ => by simp at h
  | [_], i, _, _, _, h, _ => by simp at h
  | a :: b :: r, 0, x, y, h1, h2, h => by
    simp at h1 h2; subst h1 h2
    show (RwS.lx a b && _) = false
    rw [h]; rfl
  | a :: b :: r, i + 1, x, y, h1, h2, h => by
    show (RwS.lx a b && ascB (b :: r)) = false
    rw [asc_at (rows := b :: r) (i := i) (by simpa using h1) (by simpa using h2) h, Bool.and_false]
theorem asc_all : ∀ {rows : List (List Int)}, (∀ i x y, rows[i]? = some x → rows[i + 1]? = some y → RwS.lx x y = true) → ascB rows = true
  | [], _ => rfl
  | [_], _ => rfl
  | a :: b :: r, h => by
    show (RwS.lx a b && ascB (b :: r)) = true
    rw [h 0 a b rfl rfl, asc_all (rows := b :: r) fun i x y h1 h2 => h (i + 1) x y (by simpa using h1) (by simpa using h2)]
    rfl
theorem inn_rows (rows : List (List Int)) : (innD (.tup (rows.map fun r => Dat.tup (r.map Dat.int)))).map (fun r => (innD r).map RW.intD) = rows := by
  show (rows.map fun r => Dat.tup (r.map Dat.int)).map _ = rows
  rw [List.map_map]
  conv => rhs; rw [← List.map_id rows]
  refine List.map_congr_left fun r _ => ?_
  show (r.map Dat.int).map RW.intD = r
  rw [List.map_map]
  conv => rhs; rw [← List.map_id r]
  exact List.map_congr_left fun _ _ => rfl
section
variable {P : Program} {w : World} {K : PySem.W.Frag} {mg : Str → Option Value} {base : Heap}

theorem ok_are_ascending (T : Txt K mg) : FnOk P w K mg base CX0 1 T.a_are_ascending T.d_are_ascending ["values"] (SpD K (gAsc)) := by
  refine T.F_are_ascending.ok sc_are_ascending (spd_len (k := 1) fun ss S r S' hg => ?_) (fun cdv A outer s H vs Q E hr h => ⟨_, (pss_cons (ps_set (i := 1) sc_are_ascending.nd rfl (by first | exact Or.inl rfl | exact Or.inr rfl) (pe_ix (ix_seqK K) (pv 0) pe_int (fun _ _ => rfl))) (pss_cons (ps_for PassesOwn.never rfl (pi_seqK K (pe_slice (sl_tupAK K) (pv 0) (po_some pe_int) po_none)) (pg_name (i := 2) sc_are_ascending.nd rfl (by first | exact Or.inl rfl | exact Or.inr rfl)) (pss_cons (ps_if (pt_cmpR (op_leT (Nat.lt_of_le_of_lt (Nat.le_add_right _ _) hr.units)) (pv 2) (pv 1) (nomark _)) (pss_one (ps_ret pe_bl)) pss_nil) (pss_one (ps_set (i := 1) sc_are_ascending.nd rfl (by first | exact Or.inl rfl | exact Or.inr rfl) (pv 2))))) (pss_one (ps_ret pe_bl)))), sp_body h fun ss S r S' hg => ?_⟩)
  · obtain ⟨n, rows, rfl, _⟩ := hg; rfl
  · obtain ⟨n, rows, rfl, hne, hn, rfl, rfl⟩ := hg
    obtain ⟨r0, rest, rfl⟩ : ∃ r0 rest, rows = r0 :: rest := by
      cases rows with
      | nil => exact absurd rfl hne
      | cons r0 rest => exact ⟨r0, rest, rfl⟩
    refine sp_set (x := .d (.tup (r0.map Dat.int))) (ev_op (ev_var rfl) ev_int (op2_ix .tup at0)) ?_
    refine sp_seq (P' := { nx := fun env' S2 => S2 = S' ∧ ascB (r0 :: rest) = true ∧ ∃ o1 o2, env' = [some (.d (.tup ((r0 :: rest).map fun r => Dat.tup (r.map Dat.int)))), o1, o2] })
      (sp_forA (xs := rest) (g := fun r => Dat.tup (r.map Dat.int)) ?_ (fun i env' S2 => S2 = S' ∧ (∀ j x y, j < i → (r0 :: rest)[j]? = some x → (r0 :: rest)[j + 1]? = some y → RwS.lx x y = true) ∧ ∃ r o2, (r0 :: rest)[i]? = some r ∧ env' = [some (.d (.tup ((r0 :: rest).map fun r => Dat.tup (r.map Dat.int)))), some (.d (.tup (r.map Dat.int))), o2]) ⟨rfl, fun _ _ _ h => absurd h (Nat.not_lt_zero _), r0, none, rfl, rfl⟩ (fun _ _ _ _ _ _ _ _ _ => trivial) ?_ ?_) ?_
    · have := it_tup (K := K) (env := [some (.d (.tup ((r0 :: rest).map fun r => Dat.tup (r.map Dat.int)))), some (.d (.tup (r0.map Dat.int))), none]) (S := S') (ev_slT (ds := (r0 :: rest).map fun r => Dat.tup (r.map Dat.int)) (ev_var (i := 0) rfl) (eo_some (ev_int (i := 1))) eo_none)
      rw [cut1] at this
      exact this
    · rintro i r env' S2 hx ⟨rfl, hp, r1, o2, h1, rfl⟩
      refine ⟨[2], fun env => env.set 2 (some (.d (.tup (r.map Dat.int)))), tg_name, ?_⟩
      have h2 : (r0 :: rest)[i + 1]? = some r := by simpa using hx
      have w1 := hn r1 (List.mem_of_getElem? h1)
      have w2 := hn r (List.mem_of_getElem? h2)
      have hE := et_test (ev_op (K := K) (env := [some (.d (.tup ((r0 :: rest).map fun r => Dat.tup (r.map Dat.int)))), some (.d (.tup (r1.map Dat.int))), some (.d (.tup (r.map Dat.int)))]) (S := S2) (ev_var (i := 2) rfl) (ev_var (i := 1) rfl) (o_leR (ns := r) (ms := r1) (by rw [w1, w2])))
      cases hl : RwS.lx r1 r with
      | false =>
        rw [hl] at hE
        exact sp_ifq (b := true) hE (fun _ => sp_retq (sp_ret ev_bl ⟨by rw [asc_at h1 h2 hl], List.take_length⟩)) (fun h => by cases h)
      | true =>
        rw [hl] at hE
        refine sp_ifq (b := false) hE (fun h => by cases h) fun _ => sp_nextq ?_
        refine sp_set1 (ev_var rfl) ⟨rfl, fun j x y hj e1 e2 => ?_, r, _, h2, rfl⟩
        by_cases hji : j < i
        · exact hp j x y hji e1 e2
        · have : j = i := by omega
          subst this
          rw [h1] at e1; rw [h2] at e2
          cases e1; cases e2; exact hl
    · rintro env' S2 ⟨rfl, hp, r, o2, _, rfl⟩
      refine ⟨rfl, asc_all fun i x y e1 e2 => hp i x y ?_ e1 e2, _, _, rfl⟩
      have := (List.getElem?_eq_some_iff.mp e2).1
      simpa using this
    · rintro env' S2 ⟨rfl, ha, o1, o2, rfl⟩
      exact sp_ret ev_bl ⟨by rw [ha], List.take_length⟩
theorem ok_is_lot (T : Txt K mg) : FnOk P w K mg base CX0 2 T.a_is_lot T.d_is_lot ["value"] (SpD K (gLotB)) := by
  have G_are_short_rows := ok_are_short_rows (P := P) (w := w) (base := base) T
  have b_are_short_rows := T.b_are_short_rows
  have G_are_ascending := ok_are_ascending (P := P) (w := w) (base := base) T
  have b_are_ascending := T.b_are_ascending
  refine T.F_is_lot.ok sc_is_lot (spd_len (k := 1) fun ss S r S' hg => ?_) (fun cdv A outer s H vs Q E hr h => ⟨_, (pss_one (ps_ret (pe_and (pe_call G_are_short_rows (hr.mono (by decide)) rfl T.m_are_short_rows T.k_are_short_rows b_are_short_rows .nil pass0 (pa_cons (pv 0) (pa_cons (pe_glob (v := .int 400) rfl T.m_MOST_POINTS ⟨_, rfl⟩) (pa_cons (pe_glob (v := .int 8) rfl T.m_MOST_MEMBERS ⟨_, rfl⟩) pa_nil)))) (pe_one (pe_call G_are_ascending (hr.mono (by decide)) rfl T.m_are_ascending T.k_are_ascending b_are_ascending .nil pass0 (pa_cons (pv 0) pa_nil)))))), sp_body h fun ss S r S' hg => ?_⟩)
  · obtain ⟨v, rfl, _⟩ := hg; rfl
  · obtain ⟨v, rfl, hv, rfl, rfl⟩ := hg
    refine sp_ret (ev_andV (a := asrB v 400 8) (b := ascB ((innD v).map fun r => (innD r).map RW.intD)) (ev_call (ea_cons (ev_var rfl) (ea_cons ev_int (ea_cons ev_int ea_nil))) ⟨v, 400, 8, rfl, hv, rfl, rfl⟩) fun ha => ?_) ⟨rfl, List.take_length⟩
    obtain ⟨n, rows, rfl, hne, _, _, _, hr⟩ := asr_rows ha
    rw [inn_rows]
    exact ev_call (ea_cons (ev_var rfl) ea_nil) ⟨n, rows, rfl, hne, fun x hx => (hr x hx).1, rfl, rfl⟩
theorem ok_need_lot (T : Txt K mg) : FnOk P w K mg base (L2.CX P w) 3 T.a_need_lot T.d_need_lot ["lot"] (SpR K (gNd lotB T.a_InvalidLot)) := by
  have G_is_lot := ok_is_lot (P := P) (w := w) (base := base) T
  have b_is_lot := T.b_is_lot
  refine T.F_need_lot.okX sc_need_lot (spr_len (k := 1) fun ss S o S' hg => ?_) (fun cdv A outer s H vs Q E hr h => ⟨_, (pss_one (ps_if (pt_not (pt_truK K (pe_call G_is_lot (hr.mono (by decide)) rfl T.m_is_lot T.k_is_lot b_is_lot .nil pass0 (pa_cons (pv 0) pa_nil)))) (pss_one (ps_raise rfl (takes_of rfl rfl rfl rfl) (pmk_own PySem.F.excBase_ValueError T.x_InvalidLot T.m_InvalidLot T.k_InvalidLot (raises_own T.be_InvalidLot T.ty_InvalidLot) (by exact rfl)))) pss_nil)), sp_bodyR h fun ss S o S' hg => ?_⟩)
  · obtain ⟨v, rfl, _⟩ := hg; rfl
  · obtain ⟨v, rfl, hv, rfl, rfl⟩ := hg
    have hE := et_not (et_bl (ev_call (G := gLotB) (K := K) (env := [some (.d v)]) (E := E0) (ea_cons (ev_var (i := 0) rfl) ea_nil) (⟨v, rfl, hv, rfl, rfl⟩ : gLotB [.d v] S' (.bl (lotB v)) S')))
    cases hb : lotB v with
    | true =>
      rw [hb] at hE
      exact sp_if (b := false) hE (fun h => by cases h) fun _ => sp_next ⟨rfl, List.take_length⟩
    | false =>
      rw [hb] at hE
      exact sp_if (b := true) hE (fun _ => sp_raise0 (E := E) (C := T.a_InvalidLot) (by show XOk K E _ S' = _; rw [List.take_length]; rfl)) (fun h => by cases h)
theorem ok_is_reading (T : Txt K mg) : FnOk P w K mg base CX0 3 T.a_is_reading T.d_is_reading ["value"] (SpD K (gRdB)) := by
  have G_is_lot := ok_is_lot (P := P) (w := w) (base := base) T
  have b_is_lot := T.b_is_lot
  refine T.F_is_reading.ok sc_is_reading (spd_len (k := 1) fun ss S r S' hg => ?_) (fun cdv A outer s H vs Q E hr h => ⟨_, (pss_cons (ps_if (PW.pt (pw_or (pt_not (pt_truK K (pe_callB call_isi (by rfl) T.n_isinstance (by decide +kernel) (pa_cons (pv 0) (pa_cons (pe_bltn (v := .ty "tuple") (by rfl) T.n_tuple (by decide +kernel) rfl) pa_nil))))) (pw_or1 (pt_cmpR op_ne (pe_callB (call_lenK K) (by rfl) T.n_len (by decide +kernel) (pa_cons (pv 0) pa_nil)) pe_int (nomark _))))) (pss_one (ps_ret pe_bl)) pss_nil) (pss_one (ps_ret (pe_and (pe_call G_is_lot (hr.mono (by decide)) rfl T.m_is_lot T.k_is_lot b_is_lot .nil pass0 (pa_cons (pe_ix (ix_seqK K) (pv 0) pe_int (fun _ _ => rfl)) pa_nil)) (pe_and (pe_call G_is_lot (hr.mono (by decide)) rfl T.m_is_lot T.k_is_lot b_is_lot .nil pass0 (pa_cons (pe_ix (ix_seqK K) (pv 0) pe_int (fun _ _ => rfl)) pa_nil)) (pe_one (pe_cmpR op_eq (pe_callB (call_lenK K) (by rfl) T.n_len (by decide +kernel) (pa_cons (pe_ix (ix_seqK K) (pe_ix (ix_seqK K) (pv 0) pe_int (fun _ _ => rfl)) pe_int (fun _ _ => rfl)) pa_nil)) (pe_callB (call_lenK K) (by rfl) T.n_len (by decide +kernel) (pa_cons (pe_ix (ix_seqK K) (pe_ix (ix_seqK K) (pv 0) pe_int (fun _ _ => rfl)) pe_int (fun _ _ => rfl)) pa_nil)) (nomark _)))))))), sp_body h fun ss S r S' hg => ?_⟩)
  · obtain ⟨v, rfl, _⟩ := hg; rfl
  · obtain ⟨v, rfl, hv, rfl, rfl⟩ := hg
    have hT : EvT K _ [some (.d v)] S' (!isTupD v) S' := et_not (et_bl (ev_cb (ea_cons (ev_var (i := 0) rfl) (ea_cons ev_ty ea_nil)) (ck_tup hv)))
    by_cases ht : isTupD v = true
    case neg =>
      have ht : isTupD v = false := by simpa using ht
      rw [ht] at hT
      have e : rdB v = false := by cases v <;> first | rfl | (simp [isTupD] at ht)
      rw [e]
      exact sp_ifq (b := true) (et_orP (a := true) (b := false) hT fun h => by cases h) (fun _ => sp_retq (sp_ret ev_bl ⟨rfl, List.take_length⟩)) (fun h => by cases h)
    case pos =>
      rw [ht] at hT
      obtain ⟨xs, rfl⟩ : ∃ xs, v = .tup xs := by cases v <;> first | exact ⟨_, rfl⟩ | (simp [isTupD] at ht)
      have hin := kd_inn hv
      have hC := et_test (ev_op (K := K) (env := [some (.d (.tup xs))]) (S := S') (ev_cb (ea_cons (ev_var (i := 0) rfl) ea_nil) (cd_len .tup)) (ev_int (i := 2)) (op2_ne_int (K := K) (i := (xs.length : Int)) (j := 2)))
      by_cases hl : xs.length = 2
      case neg =>
        have e : rdB (.tup xs) = false := by
          match xs, hl with
          | [], _ => rfl
          | [_], _ => rfl
          | [_, _], h => exact absurd rfl h
          | _ :: _ :: _ :: _, _ => rfl
        rw [e]
        refine sp_ifq (b := true) (et_orP (a := false) (b := true) hT fun _ => hC.to ?_) (fun _ => sp_retq (sp_ret ev_bl ⟨rfl, List.take_length⟩)) (fun h => by cases h)
        show (!decide _) = true
        rw [decide_eq_false (by omega)]; rfl
      case pos =>
        match xs, hl with
        | [a, b], _ =>
          refine sp_ifq (b := false) (et_orP (a := false) (b := false) hT fun _ => hC.to rfl) (fun h => by cases h) fun _ => sp_nextq ?_
          have ha := hin a (by simp)
          have hb := hin b (by simp)
          refine sp_ret (d := .bl (rdB (.tup [a, b]))) ((ev_andV (a := lotB a) (b := lotB b && decide (lenD ((innD a).getD 0 .non) = lenD ((innD b).getD 0 .non))) (ev_call (ea_cons (ev_op (ev_var rfl) ev_int (op2_ix (d := a) .tup at0)) ea_nil) ⟨a, rfl, ha, rfl, rfl⟩) fun ea => ev_andV (ev_call (ea_cons (ev_op (ev_var rfl) ev_int (op2_ix (d := b) .tup at1)) ea_nil) ⟨b, rfl, hb, rfl, rfl⟩) fun eb => ?_).to ?_) ⟨rfl, List.take_length⟩
          · have fst : ∀ v, lotB v = true → ∃ x xs, v = .tup (x :: xs) ∧ isTupD x = true := fun v h => by
              unfold lotB at h
              rw [Bool.and_eq_true] at h
              obtain ⟨n, rows, rfl, hne, _⟩ := asr_rows h.1
              cases rows with
              | nil => exact absurd rfl hne
              | cons r rs => exact ⟨_, _, rfl, rfl⟩
            obtain ⟨x, xs, rfl, hx⟩ := fst a ea
            obtain ⟨y, ys, rfl, hy⟩ := fst b eb
            refine (ev_op (ev_cb (ea_cons (ev_op (ev_op (ev_var rfl) ev_int (op2_ix (d := .tup (x :: xs)) .tup at0)) ev_int (op2_ix (d := x) .tup at0)) ea_nil) (cd_lenX hx)) (ev_cb (ea_cons (ev_op (ev_op (ev_var rfl) ev_int (op2_ix (d := .tup (y :: ys)) .tup at1)) ev_int (op2_ix (d := y) .tup at0)) ea_nil) (cd_lenX hy)) op2_eq_int).to ?_
            congr 2
            show decide ((lenD x : Int) = (lenD y : Int)) = decide (lenD x = lenD y)
            by_cases h : lenD x = lenD y
            · rw [decide_eq_true h, decide_eq_true (by omega)]
            · rw [decide_eq_false h, decide_eq_false (by omega)]
          · show Sl.d (.bl (lotB a && (lotB b && _))) = Sl.d (.bl (lotB a && lotB b && _))
            rw [Bool.and_assoc]
theorem ok_need_reading (T : Txt K mg) : FnOk P w K mg base (L2.CX P w) 4 T.a_need_reading T.d_need_reading ["reading"] (SpR K (gNd rdB T.a_InvalidReading)) := by
  have G_is_reading := ok_is_reading (P := P) (w := w) (base := base) T
  have b_is_reading := T.b_is_reading
  refine T.F_need_reading.okX sc_need_reading (spr_len (k := 1) fun ss S o S' hg => ?_) (fun cdv A outer s H vs Q E hr h => ⟨_, (pss_one (ps_if (pt_not (pt_truK K (pe_call G_is_reading (hr.mono (by decide)) rfl T.m_is_reading T.k_is_reading b_is_reading .nil pass0 (pa_cons (pv 0) pa_nil)))) (pss_one (ps_raise rfl (takes_of rfl rfl rfl rfl) (pmk_own PySem.F.excBase_ValueError T.x_InvalidReading T.m_InvalidReading T.k_InvalidReading (raises_own T.be_InvalidReading T.ty_InvalidReading) (by exact rfl)))) pss_nil)), sp_bodyR h fun ss S o S' hg => ?_⟩)
  · obtain ⟨v, rfl, _⟩ := hg; rfl
  · obtain ⟨v, rfl, hv, rfl, rfl⟩ := hg
    have hE := et_not (et_bl (ev_call (G := gRdB) (K := K) (env := [some (.d v)]) (E := E0) (ea_cons (ev_var (i := 0) rfl) ea_nil) (⟨v, rfl, hv, rfl, rfl⟩ : gRdB [.d v] S' (.bl (rdB v)) S')))
    cases hb : rdB v with
    | true =>
      rw [hb] at hE
      exact sp_if (b := false) hE (fun h => by cases h) fun _ => sp_next ⟨rfl, List.take_length⟩
    | false =>
      rw [hb] at hE
      exact sp_if (b := true) hE (fun _ => sp_raise0 (E := E) (C := T.a_InvalidReading) (by show XOk K E _ S' = _; rw [List.take_length]; rfl)) (fun h => by cases h)
theorem ok_need_network (T : Txt K mg) : FnOk P w K mg base (L2.CX P w) 1 T.a_need_network T.d_need_network ["network"] (SpR K (gNd (fun _ => false) T.a_InvalidNetwork)) := by
  refine T.F_need_network.okX sc_need_network (spr_len (k := 1) fun ss S o S' hg => ?_) (fun cdv A outer s H vs Q E hr h => ⟨_, (pss_one (ps_if (pt_not (pt_truK K (pe_callB call_isi (by rfl) T.n_isinstance (by decide +kernel) (pa_cons (pv 0) (pa_cons (pe_glob (v := .ref T.aN) rfl T.m_Network rfl) pa_nil))))) (pss_one (ps_raise rfl (takes_of rfl rfl rfl rfl) (pmk_own PySem.F.excBase_ValueError T.x_InvalidNetwork T.m_InvalidNetwork T.k_InvalidNetwork (raises_own T.be_InvalidNetwork T.ty_InvalidNetwork) (by exact rfl)))) pss_nil)), sp_bodyR h fun ss S o S' hg => ?_⟩)
  · obtain ⟨v, rfl, _⟩ := hg; rfl
  · obtain ⟨v, rfl, hv, rfl, rfl⟩ := hg
    exact sp_if (b := true) (et_not (a := false) (et_bl (ev_cb (ea_cons (ev_var rfl) (ea_cons ev_adr ea_nil)) (ck_own T.kt hv)))) (fun _ => sp_raise0 (E := E) (C := T.a_InvalidNetwork) (by show XOk K E _ S' = _; rw [List.take_length]; rfl)) (fun h => by cases h)
end
end N87

set_option Elab.async false
set_option linter.all false
set_option maxRecDepth 100000
set_option maxHeartbeats 4000000
namespace N87
open PySem PySem.Spec PyProof.Rows L2 RW

def rowD (r : List Int) : Dat := .tup (r.map Dat.int)
def Sh (i : Int) : Prop := -(10 ^ 60) < i ∧ i < 10 ^ 60
theorem Sh.wide {i : Int} (h : Sh i) : -(10 ^ 60) < i ∧ i < 10 ^ 60 := h
theorem Sh.bits {i : Int} (h : Sh i) : i.natAbs < 2 ^ 200 := by
  unfold Sh at h
  have e : (10 : Nat) ^ 60 ≤ 2 ^ 200 := by decide
  have : i.natAbs < 10 ^ 60 := by omega
  omega
theorem log2_le {x k : Nat} (h : x < 2 ^ k) : x.log2 ≤ k := by
  by_cases hx : x = 0
  · subst hx; simp
  · exact Nat.le_of_lt ((Nat.log2_lt hx).mpr h)
theorem size_1000 {n : Nat} (h : n ≤ 1000) : n ≤ sizeLine := Nat.le_trans h (by decide)
/-! ### texts: pure -/
def numS (i : Int) : Str := Str.ofString (toString i)
def lineS (r : List Int) : Str := Str.ofString "  " ++ Txt.join (Str.ofString " ") (r.map numS)
def textS (ls : List Str) : Str := Txt.join (Str.ofString "\n") ls ++ Str.ofString "\n"
theorem tl_numS (i : Int) : TL.tl (numS i) = if i < 0 then 45 :: TL.numL i.natAbs else TL.numL i.natAbs := by
  cases i with
  | ofNat n =>
    rw [if_neg (by simp)]
    exact TL.tl_num n
  | negSucc m =>
    rw [if_pos (Int.negSucc_lt_zero m)]
    have h := TL.tl_num (m + 1)
    rw [TL.tl_ofString] at h
    show TL.tl (Str.ofString ("-" ++ Nat.repr (m + 1))) = _
    rw [TL.tl_ofString, String.toList_append, List.map_append]
    show [45] ++ _ = _
    have e : (Int.negSucc m).natAbs = m + 1 := rfl
    rw [e]
    exact congrArg (fun l => 45 :: l) h
theorem numS_chars {i : Int} {c : Nat} (h : c ∈ TL.tl (numS i)) : c = 45 ∨ (48 ≤ c ∧ c ≤ 57) := by
  rw [tl_numS] at h
  split at h
  · rcases List.mem_cons.mp h with h | h
    · exact .inl h
    · exact .inr (TL.numL_digits _ c h)
  · exact .inr (TL.numL_digits _ c h)
theorem numL_l {i : Int} (h : Sh i) : (TL.numL i.natAbs).length ≤ 60 := by
  refine TL.numL_len (by decide) ?_
  obtain ⟨h1, h2⟩ := h
  have e : (10 : Int) ^ 60 = ((10 ^ 60 : Nat) : Int) := by simp
  rw [e] at h1 h2
  generalize (10 ^ 60 : Nat) = N at h1 h2 ⊢
  omega
theorem numS_len {i : Int} (h : Sh i) : (numS i).length ≤ 61 := by
  rw [TL.len_tl, tl_numS]
  have := numL_l h
  split
  · simp; omega
  · omega
theorem numL_head {t : List Nat} : ∀ n : Nat, TL.numL n = 48 :: t → n = 0 := fun n => by
  induction n using Nat.strongRecOn generalizing t with
  | ind n ih =>
    intro h
    by_cases hn : n < 10
    · rw [TL.numL_lt hn] at h
      have := (List.cons.inj h).1
      omega
    · rw [TL.numL_step (by omega)] at h
      cases e : TL.numL (n / 10) with
      | nil => exact absurd e (TL.numL_ne _)
      | cons a u =>
        rw [e] at h
        have ea : a = 48 := (List.cons.inj h).1
        subst ea
        have := ih (n / 10) (by omega) e
        omega
/-! characters -/
def GL (s : Str) : Prop := ∀ c ∈ TL.tl s, 32 ≤ c ∧ c < 127
theorem gl_app {a b : Str} (h1 : GL a) (h2 : GL b) : GL (a ++ b) := fun c hc => by
  rw [TL.tl_append] at hc
  rcases List.mem_append.mp hc with h | h
  · exact h1 c h
  · exact h2 c h
theorem joinL_cons2 (S x y : List Nat) (r : List (List Nat)) : TL.joinL S (x :: y :: r) = x ++ (S ++ TL.joinL S (y :: r)) := by
  first
    | rfl
    | simp [TL.joinL]
theorem joinL_mem {S : List Nat} {c : Nat} : ∀ {ps : List (List Nat)}, c ∈ TL.joinL S ps → c ∈ S ∨ ∃ p ∈ ps, c ∈ p
  | [], h => by simp [TL.joinL] at h
  | [x], h => .inr ⟨x, List.mem_cons_self, by simpa [TL.joinL] using h⟩
  | x :: y :: r, h => by
    rw [joinL_cons2] at h
    rcases List.mem_append.mp h with h | h
    · exact .inr ⟨x, List.mem_cons_self, h⟩
    · rcases List.mem_append.mp h with h | h
      · exact .inl h
      · rcases joinL_mem h with h | ⟨p, hp, hc⟩
        · exact .inl h
        · exact .inr ⟨p, List.mem_cons_of_mem _ hp, hc⟩
theorem gl_join {sep : Str} {ps : List Str} (h1 : GL sep) (h2 : ∀ p ∈ ps, GL p) : GL (Txt.join sep ps) := fun c hc => by
  rw [TL.join_eq, TL.tl_join] at hc
  rcases joinL_mem hc with h | ⟨p, hp, h⟩
  · exact h1 c h
  · obtain ⟨q, hq, rfl⟩ := List.mem_map.mp hp
    exact h2 q hq c h
theorem gl_num (i : Int) : GL (numS i) := fun c hc => by
  rcases numS_chars hc with h | h <;> omega
theorem gl_of {s : String} (h : (s.toList.map Char.toNat).all (fun c => decide (32 ≤ c) && decide (c < 127)) = true) : GL (Str.ofString s) := fun c hc => by
  rw [TL.tl_ofString] at hc
  have := List.all_eq_true.mp h c hc
  simpa using this
theorem gl_line (r : List Int) : GL (lineS r) := gl_app (gl_of (by decide +kernel)) (gl_join (gl_of (by decide +kernel)) fun p hp => by
  obtain ⟨i, _, rfl⟩ := List.mem_map.mp hp
  exact gl_num i)
theorem tl_sp : TL.tl (Str.ofString " ") = [32] := by rw [TL.tl_ofString]; rfl
theorem tl_sp2 : TL.tl (Str.ofString "  ") = [32, 32] := by rw [TL.tl_ofString]; rfl
theorem tl_nl : TL.tl (Str.ofString "\n") = [10] := by rw [TL.tl_ofString]; rfl
theorem tl_e : TL.tl Str.empty = [] := rfl
theorem joinL_len {S : List Nat} {k : Nat} : ∀ {ps : List (List Nat)}, (∀ p ∈ ps, p.length ≤ k) → (TL.joinL S ps).length ≤ ps.length * (k + S.length)
  | [], _ => by simp [TL.joinL]
  | [x], h => by
    have := h x List.mem_cons_self
    simp [TL.joinL]; omega
  | x :: y :: r, h => by
    rw [joinL_cons2, List.length_append, List.length_append, List.length_cons, Nat.succ_mul]
    have h1 := h x List.mem_cons_self
    have h2 := joinL_len (S := S) (ps := y :: r) fun p hp => h p (List.mem_cons_of_mem _ hp)
    omega
theorem join_len {sep : Str} {ps : List Str} {k : Nat} (h : ∀ p ∈ ps, p.length ≤ k) : (Txt.join sep ps).length ≤ ps.length * (k + sep.length) := by
  rw [TL.len_tl, TL.join_eq, TL.tl_join]
  have := joinL_len (S := TL.tl sep) (k := k) (ps := ps.map TL.tl) fun p hp => by
    obtain ⟨q, hq, rfl⟩ := List.mem_map.mp hp
    have := h q hq
    rwa [TL.len_tl] at this
  rw [List.length_map] at this
  rw [TL.len_tl sep]
  exact this
theorem line_len {r : List Int} (h : ∀ x ∈ r, Sh x) : (lineS r).length ≤ 2 + r.length * 62 := by
  unfold lineS
  have e : (Str.ofString "  " ++ Txt.join (Str.ofString " ") (r.map numS)).length = 2 + (Txt.join (Str.ofString " ") (r.map numS)).length := by
    rw [TL.len_tl, TL.tl_append, List.length_append, tl_sp2, ← TL.len_tl]; rfl
  rw [e]
  have := join_len (sep := Str.ofString " ") (k := 61) (ps := r.map numS) fun p hp => by
    obtain ⟨i, hi, rfl⟩ := List.mem_map.mp hp
    exact numS_len (h i hi)
  rw [List.length_map, TL.len_tl (Str.ofString " "), tl_sp] at this
  exact Nat.add_le_add_left this 2
/-! a row's line read back -/
theorem starts_eq (x y : Str) : Txt.startswith x y = (decide (y.length ≤ x.length) && ((TL.tl x).take y.length == TL.tl y)) := by
  unfold Txt.startswith
  rw [StrLaws.subAt_eq, Nat.zero_add, List.drop_zero]
theorem starts_app {x y : Str} (t : List Nat) (h : TL.tl x = TL.tl y ++ t) : Txt.startswith x y = true := by
  rw [starts_eq, TL.len_tl x, TL.len_tl y, h, List.length_append, List.take_left, decide_eq_true (by omega)]
  simp
theorem starts_line (r : List Int) : Txt.startswith (lineS r) (Str.ofString "  ") = true := starts_app _ (TL.tl_append _ _)
theorem cut_from {x : Str} {k : Nat} (h : k ≤ x.length) : TL.tl (L2.cutS x (some (k : Int)) none) = (TL.tl x).drop k := by
  unfold L2.cutS
  rw [TL.tl_mk]
  have e1 : HT.sIx x.length 0 (some (k : Int)) = k := by
    show (if (k : Int) < 0 then ((k : Int) + (x.length : Int)).toNat else min (k : Int).toNat x.length) = k
    rw [if_neg (by omega)]
    simp; omega
  have e2 : HT.sIx x.length x.length none = x.length := rfl
  rw [e1, e2]
  refine List.take_of_length_le ?_
  rw [List.length_drop, TL.len_tl]
  exact Nat.le_refl _
theorem cut_line (r : List Int) : L2.cutS (lineS r) (some 2) none = Txt.join (Str.ofString " ") (r.map numS) := by
  refine TL.ext_tl ?_
  have hl : 2 ≤ (lineS r).length := by
    rw [TL.len_tl]; unfold lineS; rw [TL.tl_append, tl_sp2]; simp
  have := cut_from (x := lineS r) (k := 2) hl
  rw [show ((2 : Nat) : Int) = 2 from rfl] at this
  rw [this]
  unfold lineS
  rw [TL.tl_append, tl_sp2]
  rfl
theorem split_line {r : List Int} (h : r ≠ []) : Txt.split (Txt.join (Str.ofString " ") (r.map numS)) (Str.ofString " ") = r.map numS := by
  refine TL.split_join (s := 32) (S := []) tl_sp (by decide +kernel) (by simpa using h) fun p hp => ?_
  obtain ⟨i, _, rfl⟩ := List.mem_map.mp hp
  intro hc
  rcases numS_chars hc with h | h <;> omega
theorem starts_minus (i : Int) : Txt.startswith (numS i) (Str.ofString "-") = decide (i < 0) := by
  have e : TL.tl (Str.ofString "-") = [45] := by rw [TL.tl_ofString]; rfl
  by_cases h : i < 0
  · rw [decide_eq_true h]
    exact starts_app (TL.numL i.natAbs) (by rw [e, tl_numS, if_pos h]; rfl)
  · rw [decide_eq_false h, starts_eq, TL.len_tl (Str.ofString "-"), e, tl_numS, if_neg h]
    cases en : TL.numL i.natAbs with
    | nil => exact absurd en (TL.numL_ne _)
    | cons a t =>
      have := TL.numL_digits i.natAbs a (by rw [en]; exact List.mem_cons_self)
      have hne : a ≠ 45 := by omega
      simp [hne]
def digS (i : Int) : Str := ⟨(TL.numL i.natAbs).toArray⟩
theorem tl_dig (i : Int) : TL.tl (digS i) = TL.numL i.natAbs := TL.tl_mk _
theorem cut_num {i : Int} (h : i < 0) : L2.cutS (numS i) (some 1) none = digS i := by
  refine TL.ext_tl ?_
  have hl : 1 ≤ (numS i).length := by rw [TL.len_tl, tl_numS, if_pos h]; simp
  have := cut_from (x := numS i) (k := 1) hl
  rw [show ((1 : Nat) : Int) = 1 from rfl] at this
  rw [this, tl_numS, if_pos h, tl_dig]
  rfl
theorem num_dig {i : Int} (h : ¬ i < 0) : numS i = digS i := TL.ext_tl (by rw [tl_numS, if_neg h, tl_dig])
theorem isdig (i : Int) : Txt.isdigit (digS i) = true := by
  have h10 : ∀ c : Nat, c < 58 → 48 ≤ c → Unicode.isDigit c = true := by decide +kernel
  unfold Txt.isdigit
  rw [TL.len_tl, tl_dig, Bool.and_eq_true]
  refine ⟨decide_eq_true ?_, ?_⟩
  · cases e : TL.numL i.natAbs with
    | nil => exact absurd e (TL.numL_ne _)
    | cons a t => simp
  · rw [Array.all_eq_true']
    intro c hc
    have hc' : c ∈ TL.numL i.natAbs := by rw [← tl_dig]; exact Array.mem_toList_iff.mpr hc
    have := TL.numL_digits _ c hc'
    exact h10 c (by omega) this.1
theorem dig_len {i : Int} (h : Sh i) : (digS i).length ≤ 60 := by
  rw [TL.len_tl, tl_dig]
  exact numL_l h
theorem dig0 (i : Int) : (Txt.startswith (digS i) (Str.ofString "0") && !decide (numS i = Str.ofString "0")) = false := by
  have e : TL.tl (Str.ofString "0") = [48] := by rw [TL.tl_ofString]; rfl
  cases h : Txt.startswith (digS i) (Str.ofString "0") with
  | false => rfl
  | true =>
    rw [starts_eq, TL.len_tl (Str.ofString "0"), e, tl_dig] at h
    cases en : TL.numL i.natAbs with
    | nil => exact absurd en (TL.numL_ne _)
    | cons a t =>
      rw [en] at h
      have ha : a = 48 := by
        have h2 := (Bool.and_eq_true_iff.mp h).2
        simpa using h2
      subst ha
      have h0 := numL_head _ en
      have hi : i = 0 := by omega
      subst hi
      have : numS 0 = Str.ofString "0" := rfl
      rw [this]
      simp
theorem int_num {i : Int} (h : Sh i) : intText? (numS i) = some i := by
  have hl := numS_len h
  by_cases hi : i < 0
  · have := intText_neg (x := numS i) (cs := TL.numL i.natAbs) (by show TL.tl (numS i) = _; rw [tl_numS, if_pos hi]) (TL.numL_digits _) (TL.numL_ne _) (by omega)
    rw [this, TL.numL_val]
    congr 1; omega
  · have e : (numS i).cps.toList = TL.numL i.natAbs := by show TL.tl (numS i) = _; rw [tl_numS, if_neg hi]
    have := intText_digits (x := numS i) (by rw [e]; exact TL.numL_digits _) (by rw [e]; exact TL.numL_ne _) (by omega)
    rw [this, e, TL.numL_val]
    congr 1; omega
/-! ### lines: pure -/
theorem joinL_snoc {S e : List Nat} : ∀ {ps : List (List Nat)}, ps ≠ [] → TL.joinL S (ps ++ [e]) = TL.joinL S ps ++ (S ++ e)
  | [], h => absurd rfl h
  | [x], _ => by
    show TL.joinL S [x, e] = _
    rw [joinL_cons2]
    simp [TL.joinL]
  | x :: y :: r, _ => by
    show TL.joinL S (x :: y :: (r ++ [e])) = _
    have ih := joinL_snoc (S := S) (e := e) (ps := y :: r) (by simp)
    rw [joinL_cons2, joinL_cons2]
    rw [show y :: (r ++ [e]) = (y :: r) ++ [e] from rfl, ih]
    simp [List.append_assoc]
structure TOK (ls : List Str) : Prop where
  ne : ls ≠ []
  n : ls.length ≤ 100
  gl : ∀ l ∈ ls, GL l
  len : ∀ l ∈ ls, l.length ≤ 2000
theorem tl_text {ls : List Str} : TL.tl (textS ls) = TL.joinL [10] (ls.map TL.tl) ++ [10] := by
  unfold textS
  rw [TL.tl_append, TL.join_eq, TL.tl_join, tl_nl]
theorem text_eq {ls : List Str} (h : ls ≠ []) : textS ls = Txt.join (Str.ofString "\n") (ls ++ [Str.empty]) := by
  refine TL.ext_tl ?_
  rw [tl_text, TL.join_eq, TL.tl_join, tl_nl, List.map_append, List.map_cons, List.map_nil, joinL_snoc (by simpa using h)]
  rfl
theorem split_text {ls : List Str} (h : ls ≠ []) (hg : ∀ l ∈ ls, GL l) : Txt.split (textS ls) (Str.ofString "\n") = ls ++ [Str.empty] := by
  rw [text_eq h]
  refine TL.split_join (s := 10) (S := []) tl_nl (by decide +kernel) (by simp) fun p hp hc => ?_
  rcases List.mem_append.mp hp with hp | hp
  · have := hg p hp 10 hc
    omega
  · rw [List.mem_singleton.mp hp] at hc
    cases hc
theorem joined_eq {ls : List Str} (h : ls ≠ []) : Txt.join (Str.ofString "") (ls.map fun l => l ++ Str.ofString "\n") = textS ls := by
  refine TL.ext_tl ?_
  rw [tl_text, TL.join_eq, TL.tl_join, List.map_map]
  have e0 : TL.tl (Str.ofString "") = [] := by rw [TL.tl_ofString]; rfl
  rw [e0]
  have key : ∀ ps : List Str, ps ≠ [] → TL.joinL [] (ps.map (TL.tl ∘ fun l => l ++ Str.ofString "\n")) = TL.joinL [10] (ps.map TL.tl) ++ [10] := by
    intro ps
    induction ps with
    | nil => intro h; exact absurd rfl h
    | cons x r ih =>
      intro _
      cases r with
      | nil =>
        show TL.joinL [] [TL.tl (x ++ Str.ofString "\n")] = _
        rw [TL.tl_append, tl_nl]
        rfl
      | cons y r =>
        have := ih (by simp)
        rw [List.map_cons, List.map_cons] at this ⊢
        rw [joinL_cons2, List.map_cons, List.map_cons, joinL_cons2, this]
        show TL.tl (x ++ Str.ofString "\n") ++ _ = _
        rw [TL.tl_append, tl_nl]
        simp [List.append_assoc]
  exact key ls h
theorem text_len {ls : List Str} (h : TOK ls) : (textS ls).length ≤ 200200 := by
  rw [TL.len_tl, tl_text, List.length_append]
  have := joinL_len (S := [10]) (k := 2000) (ps := ls.map TL.tl) fun p hp => by
    obtain ⟨q, hq, rfl⟩ := List.mem_map.mp hp
    have := h.len q hq
    rwa [TL.len_tl] at this
  rw [List.length_map] at this
  have h2 := h.n
  have h3 : ls.length * (2000 + [10].length) ≤ 100 * 2001 := Nat.mul_le_mul_right _ h2
  simp only [List.length_cons, List.length_nil] at *
  omega
theorem text_chars {ls : List Str} (h : ∀ l ∈ ls, GL l) {c : Nat} (hc : c ∈ TL.tl (textS ls)) : c = 10 ∨ (32 ≤ c ∧ c < 127) := by
  rw [tl_text] at hc
  rcases List.mem_append.mp hc with hc | hc
  · rcases joinL_mem hc with hc | ⟨p, hp, hc⟩
    · exact .inl (by simpa using hc)
    · obtain ⟨q, hq, rfl⟩ := List.mem_map.mp hp
      exact .inr (h q hq c hc)
  · exact .inl (by simpa using hc)
theorem text_ascii {ls : List Str} (h : ∀ l ∈ ls, GL l) : Txt.isascii (textS ls) = true := by
  unfold Txt.isascii
  rw [Array.all_eq_true']
  intro c hc
  have := text_chars h (c := c) (Array.mem_toList_iff.mpr hc)
  exact decide_eq_true (by omega)
theorem text_print {ls : List Str} (hn : ls ≠ []) (h : ∀ l ∈ ls, GL l) : Txt.isprintable (Txt.replace (textS ls) (Str.ofString "\n") (Str.ofString "")) = true := by
  have hp : ∀ c : Nat, c < 127 → 32 ≤ c → Unicode.isPrintable c = true := by decide +kernel
  have e : Str.ofString "\n" = ⟨#[10]⟩ := TL.ext_tl (by rw [tl_nl])
  have hs := split_text hn h
  rw [e] at hs ⊢
  rw [StrLaws.replace_one, hs]
  unfold Txt.isprintable
  rw [Array.all_eq_true']
  intro c hc
  have hc2 : c ∈ TL.tl ((Str.ofString "").join (ls ++ [Str.empty])) := Array.mem_toList_iff.mpr hc
  rw [TL.tl_join] at hc2
  rcases joinL_mem hc2 with hc2 | ⟨p, hp2, hc2⟩
  · rw [TL.tl_ofString] at hc2; cases hc2
  · obtain ⟨q, hq, rfl⟩ := List.mem_map.mp hp2
    rcases List.mem_append.mp hq with hq | hq
    · have := h q hq c hc2
      exact hp c this.2 this.1
    · rw [List.mem_singleton.mp hq] at hc2; cases hc2
theorem glw (s : String) (h : (s.toList.map Char.toNat).all (fun c => decide (32 ≤ c) && decide (c < 127)) = true := by decide +kernel) : GL (Str.ofString s) := gl_of h
theorem lnw (s : String) (h : (s.toList.map Char.toNat).length ≤ 2000 := by decide +kernel) : (Str.ofString s).length ≤ 2000 := by rw [TL.len_tl, TL.tl_ofString]; exact h
def strsD (ls : List Str) : Dat := .lst (ls.map Dat.str)
theorem fits {i : Int} (h : Sh i) : i.natAbs.log2 < 1920 := Nat.lt_of_le_of_lt (log2_le h.bits) (by decide)
theorem szl {n : Nat} (h : n ≤ 16000000) : n ≤ sizeLine := by rw [sizeLine_eq]; omega
theorem lnS {s : String} {k : Nat} (h : (s.toList.map Char.toNat).length = k) : (Str.ofString s).length = k := by rw [TL.len_tl, TL.tl_ofString]; exact h
theorem line_join_len {u : List Int} (h : ∀ x ∈ u, Sh x) : ((u.map numS).map fun x => x.length).sum ≤ u.length * 61 := by
  induction u with
  | nil => simp
  | cons x u ih =>
    have h1 := numS_len (h x List.mem_cons_self)
    have h2 := ih fun y hy => h y (List.mem_cons_of_mem _ hy)
    rw [List.map_cons, List.map_cons, List.sum_cons, List.length_cons, Nat.succ_mul]
    omega
theorem lens_le {ls : List Str} {k : Nat} (h : ∀ l ∈ ls, l.length ≤ k) : (ls.map fun x => x.length).sum ≤ ls.length * k := by
  induction ls with
  | nil => simp
  | cons x u ih =>
    have h1 := h x List.mem_cons_self
    have h2 := ih fun y hy => h y (List.mem_cons_of_mem _ hy)
    rw [List.map_cons, List.sum_cons, List.length_cons, Nat.succ_mul]
    omega
theorem emp : Str.ofString "" = Str.empty := TL.ext_tl (by rw [TL.tl_ofString]; rfl)
/-! texts of lines -/
structure TX (s : Str) (ps : List Str) : Prop where
  e : s = Txt.join (Str.ofString "\n") ps
  ne : ps ≠ []
  gl : ∀ p ∈ ps, GL p
  len : s.length ≤ 200000
theorem TX.split {s : Str} {ps : List Str} (h : TX s ps) : Txt.split s (Str.ofString "\n") = ps := by
  rw [h.e]
  refine TL.split_join (s := 10) (S := []) tl_nl (by decide +kernel) h.ne fun p hp hc => ?_
  have := h.gl p hp 10 hc
  omega
theorem TX.chars {s : Str} {ps : List Str} (h : TX s ps) {c : Nat} (hc : c ∈ TL.tl s) : c = 10 ∨ (32 ≤ c ∧ c < 127) := by
  rw [h.e, TL.join_eq, TL.tl_join, tl_nl] at hc
  rcases joinL_mem hc with hc | ⟨p, hp, hc⟩
  · exact .inl (by simpa using hc)
  · obtain ⟨q, hq, rfl⟩ := List.mem_map.mp hp
    exact .inr (h.gl q hq c hc)
theorem TX.ascii {s : Str} {ps : List Str} (h : TX s ps) : Txt.isascii s = true := by
  unfold Txt.isascii
  rw [Array.all_eq_true']
  intro c hc
  have := h.chars (c := c) (Array.mem_toList_iff.mpr hc)
  exact decide_eq_true (by omega)
theorem TX.print {s : Str} {ps : List Str} (h : TX s ps) : Txt.isprintable (Txt.replace s (Str.ofString "\n") (Str.ofString "")) = true := by
  have hp : ∀ c : Nat, c < 127 → 32 ≤ c → Unicode.isPrintable c = true := by decide +kernel
  have e : Str.ofString "\n" = ⟨#[10]⟩ := TL.ext_tl (by rw [tl_nl])
  have hs := h.split
  rw [e] at hs ⊢
  rw [StrLaws.replace_one, hs]
  unfold Txt.isprintable
  rw [Array.all_eq_true']
  intro c hc
  have hc2 : c ∈ TL.tl ((Str.ofString "").join ps) := Array.mem_toList_iff.mpr hc
  rw [TL.tl_join] at hc2
  rcases joinL_mem hc2 with hc2 | ⟨p, hp2, hc2⟩
  · rw [TL.tl_ofString] at hc2; cases hc2
  · obtain ⟨q, hq, rfl⟩ := List.mem_map.mp hp2
    have := h.gl q hq c hc2
    exact hp c this.2 this.1
end N87

set_option Elab.async false
set_option linter.all false
set_option maxRecDepth 100000
set_option maxHeartbeats 4000000
namespace N87
open PySem PySem.Spec PyProof.Rows L2 RW

section
variable {K : PySem.W.Frag} {env : Env1} {S S1 S2 S3 : List Dat} {d : Dat} {k : Nat} {ta : TE} {tA : TA} {C : Addr} {p : Option (Str × Dat)} {E : XK}
theorem ev_methR {Cl : Addr} {m : Str} {fs : List (Str × Dat)} {G : List Sl → List Dat → Out → List Dat → Prop} {ss : List Sl} (h : Ev K ta env S (.c k) S1) (hs : S1[k]? = some (.ins Cl fs)) (hm : fs.lookup m = none) (hx : EvA K tA env S1 ss S2) (hg : G (.c k :: ss) S2 (.val d) S3) :
    Ev K (tMeth Cl m (SpR K G) [] E ta tA) env S (.d d) S3 := fun B H as σ c g Q q =>
  h B H as σ c g _ fun v B1 H1 c1 e1 r1 => by
    obtain ⟨w, hw, rfl⟩ := r1
    obtain ⟨dx, vs, hv, rv⟩ := (c1.cells k w _ hw hs).2.ins
    refine ⟨w, dx, vs, rfl, hv, RepF.none rv hm, hx B1 H1 as σ c1 (g.mono e1.ex) _ fun us B2 H2 c2 e2 r2 => ?_⟩
    exact ⟨B2, as, S2, .c k :: ss, .val d, S3, c2, by rw [List.append_nil]; exact .cons ⟨w, hw, rfl⟩ r2, hg, fun r er v B3 H3 c3 e3 r3 => by cases er; exact q v B3 H3 c3 ((e1.trans e2).trans e3) r3, fun _ _ z => nomatch z⟩
theorem ev_methX {Cl : Addr} {m : Str} {fs : List (Str × Dat)} {G : List Sl → List Dat → Out → List Dat → Prop} {ss : List Sl} (h : Ev K ta env S (.c k) S1) (hs : S1[k]? = some (.ins Cl fs)) (hm : fs.lookup m = none) (hx : EvA K tA env S1 ss S2) (hg : G (.c k :: ss) S2 (.exc C p) S3) :
    EvX K E (tMeth Cl m (SpR K G) [] E ta tA) env S C p S3 := fun B H as σ c g w Q =>
  h B H as σ c g _ fun v B1 H1 c1 e1 r1 => by
    obtain ⟨x, hw, rfl⟩ := r1
    obtain ⟨dx, vs, hv, rv⟩ := (c1.cells k x _ hw hs).2.ins
    refine ⟨x, dx, vs, rfl, hv, RepF.none rv hm, hx B1 H1 as σ c1 (g.mono e1.ex) _ fun us B2 H2 c2 e2 r2 => ?_⟩
    exact ⟨B2, as, S2, .c k :: ss, .exc C p, S3, c2, by rw [List.append_nil]; exact .cons ⟨x, hw, rfl⟩ r2, hg, fun r er => (nomatch er), fun C' p' z d B3 H3 c3 e3 pa => by cases z; exact w d B3 H3 c3 ((e1.trans e2).trans e3) pa⟩
end
def gRowL (ss : List Sl) (S : List Dat) (r : Dat) (S' : List Dat) : Prop := ∃ u : List Int, ss = [.d (rowD u)] ∧ (∀ x ∈ u, Sh x) ∧ u.length ≤ 30 ∧ r = .str (lineS u) ∧ S' = S
def gTextOf (ss : List Sl) (S : List Dat) (r : Dat) (S' : List Dat) : Prop := ∃ ls : List Str, ss = [.d (strsD ls)] ∧ TOK ls ∧ r = .str (textS ls) ∧ S' = S
def lot7 : Dat := .tup [.tup [.int 7]]
def ls7 : List Str := [Str.ofString "lot", lineS [7], Str.ofString "end"]
def gLotF (C : Addr) (ss : List Sl) (S : List Dat) (o : Out) (S' : List Dat) : Prop := ∃ v : Dat, ss = [.d v] ∧ KD v ∧ lotB v = false ∧ o = .exc C none ∧ S' = S
def gLotV (ss : List Sl) (S : List Dat) (o : Out) (S' : List Dat) : Prop := ss = [.d lot7] ∧ o = .val (.str (textS ls7)) ∧ S' = S
def gLotT (C : Addr) (ss : List Sl) (S : List Dat) (o : Out) (S' : List Dat) : Prop := gLotF C ss S o S' ∨ gLotV ss S o S'
def gRdF (C : Addr) (ss : List Sl) (S : List Dat) (o : Out) (S' : List Dat) : Prop := ∃ v : Dat, ss = [.d v] ∧ KD v ∧ rdB v = false ∧ o = .exc C none ∧ S' = S
def gNetF (C : Addr) (ss : List Sl) (S : List Dat) (o : Out) (S' : List Dat) : Prop := ∃ v : Dat, ss = [.d v] ∧ KD v ∧ o = .exc C none ∧ S' = S
def lnD (C : Addr) (ws : List Str) (a : Nat) : Dat := .ins C [("lines", strsD ws), ("at", .int a)]
abbrev pe0 (C : Addr) : Out := .exc C (some ("spot", .int 0))
def gLInit (C : Addr) (ss : List Sl) (S : List Dat) (r : Dat) (S' : List Dat) : Prop := ∃ (k : Nat) (s : Str) (ps : List Str), ss = [.c k, .d (.str s)] ∧ S[k]? = some (.ins C []) ∧ TX s ps ∧ r = .non ∧ S' = S.set k (lnD C ps 0)
def gLine (C X : Addr) (ss : List Sl) (S : List Dat) (o : Out) (S' : List Dat) : Prop := ∃ (k : Nat) (ws : List Str), ss = [.c k] ∧ S[k]? = some (lnD C ws 0) ∧ ((ws.length = 1 ∧ o = pe0 X) ∨ (2 ≤ ws.length ∧ ∃ w, ws[0]? = some w ∧ o = .val (.str w))) ∧ S' = S
def gWord (C X : Addr) (ss : List Sl) (S : List Dat) (o : Out) (S' : List Dat) : Prop := ∃ (k : Nat) (ws : List Str) (w : Str), ss = [.c k, .d (.str w)] ∧ S[k]? = some (lnD C ws 0) ∧ (ws.length = 1 ∨ (2 ≤ ws.length ∧ ∃ x, ws[0]? = some x ∧ x ≠ w)) ∧ o = pe0 X ∧ S' = S
def gInp (C X : Addr) (ss : List Sl) (S : List Dat) (o : Out) (S' : List Dat) : Prop := ∃ (k : Nat) (ws : List Str), ss = [.c k] ∧ S[k]? = some (lnD C ws 0) ∧ (ws.length = 1 ∨ (2 ≤ ws.length ∧ ∃ x, ws[0]? = some x ∧ Txt.startswith x (Str.ofString "network ") = false)) ∧ o = pe0 X ∧ S' = S
def gTxtF (C : Addr) (ss : List Sl) (S : List Dat) (o : Out) (S' : List Dat) : Prop := ∃ v : Dat, ss = [.d v] ∧ KD v ∧ isStrD v = false ∧ o = .exc C none ∧ S' = S
def gTxtV (ss : List Sl) (S : List Dat) (o : Out) (S' : List Dat) : Prop := ∃ (s : Str) (ps : List Str), ss = [.d (.str s)] ∧ TX s ps ∧ o = .val .non ∧ S' = S
structure BadT (s : Str) (ps : List Str) : Prop where
  tx : TX s ps
  bad : ps.length = 1 ∨ (2 ≤ ps.length ∧ ∃ x, ps[0]? = some x ∧ x ≠ Str.ofString "lot" ∧ x ≠ Str.ofString "reading" ∧ Txt.startswith x (Str.ofString "network ") = false)
def gReadV (X : Addr) (ss : List Sl) (S : List Dat) (o : Out) (S' : List Dat) : Prop := ∃ (s : Str) (ps : List Str), ss = [.d (.str s)] ∧ BadT s ps ∧ o = pe0 X ∧ S' = S
def gRead (C X : Addr) (ss : List Sl) (S : List Dat) (o : Out) (S' : List Dat) : Prop := gTxtF C ss S o S' ∨ gReadV X ss S o S'
theorem take_app {S : List Dat} {x : Dat} : (S ++ [x]).take S.length = S := List.take_left ..
theorem get_app {S : List Dat} {x : Dat} : (S ++ [x])[S.length]? = some x := by simp
theorem set_app {S : List Dat} {x y : Dat} : (S ++ [x]).set S.length y = S ++ [y] := by simp
theorem o_isNN {K : PySem.W.Frag} {S : List Dat} : Op2 K (fun x y H Q => y = V.non ∧ Q (.bl (decide (x = V.non))) H) (.d .non) (.d .non) S (.bl true) := fun B H as v w c r1 r2 Q q => by
  cases r1; cases r2
  exact ⟨rfl, by rw [decide_eq_true rfl]; exact q _ B H c Evo.refl (.bl _)⟩
section
variable {P : Program} {w : World} {K : PySem.W.Frag} {mg : Str → Option Value} {base : Heap}

theorem ok_ParseErroru_initu (T : Txt K mg) : FnOk P w K mg base CX0 1 T.a_ParseErroru_initu T.d_ParseErroru_initu ["self", "spot"] (spXi K T.a_ParseError "spot") := by
  refine T.F_ParseErroru_initu.ok sc_ParseErroru_initu spxi_len (fun cdv A outer s H vs Q E hr h => ⟨_, pss_one (ps_ost (pv 0) (pv 1)), spxi_body h rfl⟩)
theorem ok_row_line (T : Txt K mg) : FnOk P w K mg base CX0 1 T.a_row_line T.d_row_line ["row"] (SpD K (gRowL)) := by
  refine T.F_row_line.ok sc_row_line (spd_len (k := 1) fun ss S r S' hg => ?_) (fun cdv A outer s H vs Q E hr h => ⟨_, (pss_one (ps_ret (pe_op op_addS (pe_glob (v := .str (Str.ofString "  ")) rfl T.m_BLANKS ⟨_, rfl⟩) (pe_joinK K pe_str (pe_lc (own := [("x", 1)]) rfl sc_row_line.nd (pi_seqK K (pv 0)) (blkOk_by (own := [("x", 1)]) (N := ["row", "x"]) (sc := (defScope s_row_line)) (by decide +kernel)) (fun _ _ _ _ _ => (pg_name (i := 1) sc_row_line.nd rfl (by first | exact Or.inl rfl | exact Or.inr rfl))) (fun _ _ _ _ _ => pts_nil) (fun _ _ _ _ _ => (pe_callTy call_strI (by rfl) T.n_str (by decide +kernel) (pa_cons (pv 1) pa_nil)))))))), sp_body h fun ss S r S' hg => ?_⟩)
  · obtain ⟨i, rfl, _⟩ := hg; rfl
  · obtain ⟨u, rfl, hu, hl, rfl, rfl⟩ := hg
    have hj := line_join_len hu
    have hll := line_len hu
    refine sp_ret (d := .str (lineS u)) (ev_op ev_str (ev_join (ys := u.map numS) (x := .d (.lst ((u.map numS).map Dat.str))) ev_str (EvN.ev (EvN.toD (en_mapA (xs := u) (g := Dat.int) (is := [1]) (fun i => Dat.str (numS i)) (it_tup (ev_var rfl)) (szl (by omega)) (fun _ _ => trivial) (by decide) (fun i env => env.set 1 (some (.d (.int i)))) fun i hi => ⟨tg_name, ?_⟩) ?_)) .lst ?_) (o_addS ?_)) ⟨rfl, List.take_length⟩
    · exact ev_cb (ea_cons (ev_var rfl) ea_nil) (cd_strI (fits (hu i hi)))
    · rw [List.map_map]; rfl
    · rw [List.length_map, lnS (k := 1) rfl]
      omega
    · have : (Txt.join (Str.ofString " ") (u.map numS)).length ≤ (u.map numS).length * (61 + (Str.ofString " ").length) := join_len fun p hp => by
        obtain ⟨i, hi, rfl⟩ := List.mem_map.mp hp
        exact numS_len (hu i hi)
      rw [List.length_map, lnS (s := " ") (k := 1) rfl] at this
      rw [lnS (k := 2) rfl]
      exact szl (by omega)
theorem ok_text_of (T : Txt K mg) : FnOk P w K mg base CX0 1 T.a_text_of T.d_text_of ["lines"] (SpD K (gTextOf)) := by
  refine T.F_text_of.ok sc_text_of (spd_len (k := 1) fun ss S r S' hg => ?_) (fun cdv A outer s H vs Q E hr h => ⟨_, (pss_one (ps_ret (pe_op op_addS (pe_joinK K pe_str (pv 0)) pe_str))), sp_body h fun ss S r S' hg => ?_⟩)
  · obtain ⟨i, rfl, _⟩ := hg; rfl
  · obtain ⟨ls, rfl, hk, rfl, rfl⟩ := hg
    have h1 := lens_le hk.len
    have h2 := hk.n
    refine sp_ret (d := .str (textS ls)) (ev_op (ev_join (ys := ls) ev_str (ev_var rfl) .lst ?_) ev_str (o_addS ?_)) ⟨rfl, List.take_length⟩
    · rw [lnS (k := 1) rfl]
      have : ls.length * 2000 ≤ 100 * 2000 := Nat.mul_le_mul_right _ h2
      omega
    · have h3 := text_len hk
      have h4 : (textS ls).length = (Txt.join (Str.ofString "\n") ls).length + (Str.ofString "\n").length := by
        rw [TL.len_tl, textS, TL.tl_append, List.length_append, ← TL.len_tl, ← TL.len_tl]
      exact szl (by omega)
theorem ok_lot_text (T : Txt K mg) : FnOk P w K mg base (L2.CX P w) 4 T.a_lot_text T.d_lot_text ["lot"] (SpR K (gLotT T.a_InvalidLot)) := by
  have G_need_lot := ok_need_lot (P := P) (w := w) (base := base) T
  have b_need_lot := T.b_need_lot
  have G_text_of := ok_text_of (P := P) (w := w) (base := base) T
  have b_text_of := T.b_text_of
  have G_row_line := ok_row_line (P := P) (w := w) (base := base) T
  have b_row_line := T.b_row_line
  refine T.F_lot_text.okX sc_lot_text (spr_len (k := 1) fun ss S o S' hg => ?_) (fun cdv A outer s H vs Q E hr h => ⟨_, (pss_cons (ps_expr (pe_call G_need_lot (hr.mono (by decide)) rfl T.m_need_lot T.k_need_lot b_need_lot .nil (passR (takes_of rfl rfl rfl rfl)) (pa_cons (pv 0) pa_nil))) (pss_one (ps_ret (pe_call G_text_of (hr.mono (by decide)) rfl T.m_text_of T.k_text_of b_text_of .nil pass0 (pa_cons (pe_op op_cat (pe_op op_cat (pe_lst (pa_cons pe_str pa_nil)) (pe_lc (own := [("point", 1)]) rfl sc_lot_text.nd (pi_seqK K (pv 0)) (blkOk_by (own := [("point", 1)]) (N := ["lot", "point"]) (sc := (defScope s_lot_text)) (by decide +kernel)) (fun _ _ _ _ _ => (pg_name (i := 1) sc_lot_text.nd rfl (by first | exact Or.inl rfl | exact Or.inr rfl))) (fun _ _ _ _ _ => pts_nil) (fun _ _ _ _ _ => (pe_call G_row_line (hr.mono (by decide)) rfl T.m_row_line T.k_row_line b_row_line .nil pass0 (pa_cons (pv 1) pa_nil))))) (pe_lst (pa_cons pe_str pa_nil))) pa_nil))))), sp_bodyR h fun ss S o S' hg => ?_⟩)
  · rcases hg with ⟨v, rfl, _⟩ | ⟨rfl, _⟩ <;> rfl
  · rcases hg with ⟨v, rfl, hv, hb, rfl, rfl⟩ | ⟨rfl, rfl, rfl⟩
    · exact sp_dropXq (ev_callX (ea_cons (ev_var rfl) ea_nil) ⟨v, rfl, hv, by rw [hb]; rfl, rfl⟩) (by show XOk K E _ S' = _; rw [List.take_length])
    · have hk : KD lot7 := .tup (fun d hd => by rw [List.mem_singleton.mp hd]; exact .tup (fun e he => by rw [List.mem_singleton.mp he]; exact .int _) (by decide)) (by decide)
      refine sp_drop (ev_callR (ea_cons (ev_var rfl) ea_nil) ⟨lot7, rfl, hk, by rw [if_pos (by decide +kernel)], rfl⟩) ?_
      have h7 : ∀ x ∈ [(7 : Int)], Sh x := fun x hx => by rw [List.mem_singleton.mp hx]; unfold Sh; omega
      have hl := line_len h7
      refine sp_ret (d := .str (textS ls7)) (ev_call (ea_cons (EvN.ev (EvN.toD (en_cat (EvN.ev (en_cat (EvN.ev (en_lst (ds := [.str (Str.ofString "lot")]) (ea_cons ev_str ea_nil) (by decide))) (EvN.ev (en_mapA (xs := [[(7 : Int)]]) (g := rowD) (is := [1]) (fun r => Dat.str (lineS r)) (it_tup (ev_var rfl)) (by decide) (fun _ _ => trivial) (by decide) (fun r env => env.set 1 (some (.d (rowD r)))) fun r hr => ⟨tg_name, ?_⟩)) .lst .lst (by decide))) (EvN.ev (en_lst (ds := [.str (Str.ofString "end")]) (ea_cons ev_str ea_nil) (by decide))) .lst .lst (by decide)) rfl)) ea_nil) ⟨ls7, rfl, ?_, rfl, rfl⟩) ⟨rfl, List.take_length⟩
      · rw [List.mem_singleton.mp hr]
        exact ev_call (ea_cons (ev_var rfl) ea_nil) ⟨[7], rfl, h7, by decide, rfl, rfl⟩
      · refine ⟨by simp [ls7], by decide, fun l h => ?_, fun l h => ?_⟩
        · unfold ls7 at h
          simp only [List.mem_cons, List.not_mem_nil, or_false] at h
          rcases h with rfl | rfl | rfl
          · exact glw _
          · exact gl_line _
          · exact glw _
        · unfold ls7 at h
          simp only [List.mem_cons, List.not_mem_nil, or_false] at h
          rcases h with rfl | rfl | rfl
          · exact lnw _
          · simp only [List.length_cons, List.length_nil] at hl; omega
          · exact lnw _
theorem ok_reading_text (T : Txt K mg) : FnOk P w K mg base (L2.CX P w) 5 T.a_reading_text T.d_reading_text ["reading"] (SpR K (gRdF T.a_InvalidReading)) := by
  have G_need_reading := ok_need_reading (P := P) (w := w) (base := base) T
  have b_need_reading := T.b_need_reading
  refine T.F_reading_text.okX sc_reading_text (spr_len (k := 1) fun ss S o S' hg => ?_) (fun cdv A outer s H vs Q E hr h => ⟨_, (pss_cons (ps_expr (pe_call G_need_reading (hr.mono (by decide)) rfl T.m_need_reading T.k_need_reading b_need_reading .nil (passR (takes_of rfl rfl rfl rfl)) (pa_cons (pv 0) pa_nil))) (pss_cons ps_never (pss_cons ps_never (pss_one ps_never)))), sp_bodyR h fun ss S o S' hg => ?_⟩)
  · obtain ⟨v, rfl, _⟩ := hg; rfl
  · obtain ⟨v, rfl, hv, hb, rfl, rfl⟩ := hg
    exact sp_dropXq (ev_callX (ea_cons (ev_var rfl) ea_nil) ⟨v, rfl, hv, by rw [hb]; rfl, rfl⟩) (by show XOk K E _ S' = _; rw [List.take_length])
theorem ok_network_text (T : Txt K mg) : FnOk P w K mg base (L2.CX P w) 2 T.a_network_text T.d_network_text ["network"] (SpR K (gNetF T.a_InvalidNetwork)) := by
  have G_need_network := ok_need_network (P := P) (w := w) (base := base) T
  have b_need_network := T.b_need_network
  refine T.F_network_text.okX sc_network_text (spr_len (k := 1) fun ss S o S' hg => ?_) (fun cdv A outer s H vs Q E hr h => ⟨_, (pss_cons (ps_expr (pe_call G_need_network (hr.mono (by decide)) rfl T.m_need_network T.k_need_network b_need_network .nil (passR (takes_of rfl rfl rfl rfl)) (pa_cons (pv 0) pa_nil))) (pss_cons ps_never (pss_cons ps_never (pss_one ps_never)))), sp_bodyR h fun ss S o S' hg => ?_⟩)
  · obtain ⟨v, rfl, _⟩ := hg; rfl
  · obtain ⟨v, rfl, hv, rfl, rfl⟩ := hg
    exact sp_dropXq (ev_callX (ea_cons (ev_var rfl) ea_nil) ⟨v, rfl, hv, rfl, rfl⟩) (by show XOk K E _ S' = _; rw [List.take_length])
theorem ok_Linesu_initu (T : Txt K mg) : FnOk P w K mg base CX0 1 T.a_Linesu_initu T.d_Linesu_initu ["self", "text"] (SpD K (gLInit T.CL)) := by
  refine T.F_Linesu_initu.ok sc_Linesu_initu (spd_len (k := 2) fun ss S r S' hg => ?_) (fun cdv A outer s H vs Q E hr h => ⟨_, (pss_cons (ps_fld (pv 0) (pe_bm PySem.F.plainAttrs_str PySem.F.slot_str_split PySem.F.type_str_split mt_split (pv 1) (pa_cons pe_str pa_nil)) rfl) (pss_one (ps_fld (pv 0) pe_int rfl))), sp_body h fun ss S r S' hg => ?_⟩)
  · obtain ⟨k, s, ls, rfl, _⟩ := hg; rfl
  · obtain ⟨k, s, ls, rfl, hk, ht, rfl, rfl⟩ := hg
    have hkl : k < S.length := (List.getElem?_eq_some_iff.mp hk).1
    have hl := ht.len
    refine sp_fld (d := strsD ls) ((EvN.ev (en_split (ev_var rfl) (ea_cons ev_str ea_nil) (by rw [lnS (k := 1) rfl]; rfl) (szl (by omega)))).to ?_) (ev_var rfl) hk T.cl_Lines T.na_Lines_lines (by show 0 < 1000; decide) ?_
    · rw [ht.split]; rfl
    · refine sp_fld1 ev_int (ev_var rfl) (List.getElem?_set_self hkl) T.cl_Lines T.na_Lines_at (by show 1 < 1000; decide) ⟨rfl, ?_⟩
      rw [List.set_set, List.take_of_length_le (by simp)]
      rfl
theorem ok_Lines_line (T : Txt K mg) : FnOk P w K mg base (L2.CX P w) 3 T.a_Lines_line T.d_Lines_line ["self"] (SpR K (gLine T.CL T.a_ParseError)) := by
  have G_ParseErroru_initu := ok_ParseErroru_initu (P := P) (w := w) (base := base) T
  have b_ParseErroru_initu := T.b_ParseErroru_initu
  refine T.F_Lines_line.okX sc_Lines_line (spr_len (k := 1) fun ss S o S' hg => ?_) (fun cdv A outer s H vs Q E hr h => ⟨_, (pss_cons (ps_if (pt_cmpR op_ge (pe_fld (pv 0) rfl) (pe_op op_sub (pe_callB (call_lenK K) (by rfl) T.n_len (by decide +kernel) (pa_cons (pe_fld (pv 0) rfl) pa_nil)) pe_int) (nomark _)) (pss_one (ps_raise rfl (takes_of rfl rfl rfl rfl) (pmk_oex T.ox_ParseError T.oi_ParseError T.ot_ParseError G_ParseErroru_initu (hr.mono (by decide)) b_ParseErroru_initu .nil pass0 rfl T.m_ParseError (pa_cons (pe_fld (pv 0) rfl) pa_nil)))) pss_nil) (pss_one (ps_ret (pe_ix (ix_seqK K) (pe_fld (pv 0) rfl) (pe_fld (pv 0) rfl) (fun _ _ => rfl))))), sp_bodyR h fun ss S o S' hg => ?_⟩)
  · obtain ⟨k, ws, rfl, _⟩ := hg; rfl
  · obtain ⟨k, ws, rfl, hk, ho, rfl⟩ := hg
    have hE := et_test (ev_op (K := K) (env := [some (.c k)]) (S := S') (ev_fldC (ev_var (i := 0) rfl) hk T.cl_Lines T.na_Lines_at rfl) (ev_op (ev_cb (ea_cons (ev_fldC (ev_var (i := 0) rfl) hk T.cl_Lines T.na_Lines_lines rfl) ea_nil) (cd_len .lst)) (ev_int (i := 1)) o_sub) (o_ge (K := K) (i := ((0 : Nat) : Int)) (j := ((ws.map Dat.str).length : Int) - 1)))
    rw [List.length_map] at hE
    rcases ho with ⟨h1, rfl⟩ | ⟨h2, x, hx, rfl⟩
    · refine sp_ifq (b := true) (hE.to (by rw [decide_eq_true (by omega)])) (fun _ => sp_raise1q (ea_cons (ev_fldC (ev_var rfl) hk T.cl_Lines T.na_Lines_at rfl) ea_nil) T.ox_ParseError T.nf_ParseError (by show XOk K E _ S' = _; rw [List.take_length]; rfl)) (fun h => by cases h)
    · refine sp_ifq (b := false) (hE.to (by rw [decide_eq_false (by omega)])) (fun h => by cases h) fun _ => sp_nextq ?_
      refine sp_ret (ev_op (ev_fldC (ev_var rfl) hk T.cl_Lines T.na_Lines_lines rfl) (ev_fldC (ev_var rfl) hk T.cl_Lines T.na_Lines_at rfl) (op2_ix .lst ?_)) ⟨rfl, List.take_length⟩
      cases ws with
      | nil => simp at hx
      | cons y ys => simp at hx; subst hx; exact at0
theorem ok_Lines_word (T : Txt K mg) : FnOk P w K mg base (L2.CX P w) 4 T.a_Lines_word T.d_Lines_word ["self", "word"] (SpR K (gWord T.CL T.a_ParseError)) := by
  have G_Lines_line := ok_Lines_line (P := P) (w := w) (base := base) T
  have b_Lines_line := T.b_Lines_line
  have G_ParseErroru_initu := ok_ParseErroru_initu (P := P) (w := w) (base := base) T
  have b_ParseErroru_initu := T.b_ParseErroru_initu
  refine T.F_Lines_word.okX sc_Lines_word (spr_len (k := 2) fun ss S o S' hg => ?_) (fun cdv A outer s H vs Q E hr h => ⟨_, (pss_cons (ps_if (pt_cmpR op_ne (pe_meth0 (pv 0) T.cl_Lines T.me_Lines_line G_Lines_line (hr.mono (by decide)) b_Lines_line .nil (passR (takes_of rfl rfl rfl rfl))) (pv 1) (nomark _)) (pss_one (ps_raise rfl (takes_of rfl rfl rfl rfl) (pmk_oex T.ox_ParseError T.oi_ParseError T.ot_ParseError G_ParseErroru_initu (hr.mono (by decide)) b_ParseErroru_initu .nil pass0 rfl T.m_ParseError (pa_cons (pe_fld (pv 0) rfl) pa_nil)))) pss_nil) (pss_one ps_never)), sp_bodyR h fun ss S o S' hg => ?_⟩)
  · obtain ⟨k, ws, x, rfl, _⟩ := hg; rfl
  · obtain ⟨k, ws, x, rfl, hk, hb, rfl, rfl⟩ := hg
    rcases hb with h1 | ⟨h2, y, hy, hne⟩
    · exact sp_ifXq (evxt_test (evx_op1 (ev_methX (ev_var rfl) hk rfl ea_nil ⟨k, ws, rfl, hk, .inl ⟨h1, rfl⟩, rfl⟩))) (by show XOk K E _ S' = _; rw [List.take_length])
    · refine sp_ifq (b := true) (et_test ((ev_op (ev_methR (d := .str y) (ev_var rfl) hk rfl ea_nil ⟨k, ws, rfl, hk, .inr ⟨h2, y, hy, rfl⟩, rfl⟩) (ev_var rfl) o_neS).to (by rw [decide_eq_false hne]; rfl))) (fun _ => sp_raise1q (ea_cons (ev_fldC (ev_var rfl) hk T.cl_Lines T.na_Lines_at rfl) ea_nil) T.ox_ParseError T.nf_ParseError (by show XOk K E _ S' = _; rw [List.take_length]; rfl)) (fun h => by cases h)
theorem ok_inputs_in (T : Txt K mg) : FnOk P w K mg base (L2.CX P w) 4 T.a_inputs_in T.d_inputs_in ["lines"] (SpR K (gInp T.CL T.a_ParseError)) := by
  have G_Lines_line := ok_Lines_line (P := P) (w := w) (base := base) T
  have b_Lines_line := T.b_Lines_line
  have G_ParseErroru_initu := ok_ParseErroru_initu (P := P) (w := w) (base := base) T
  have b_ParseErroru_initu := T.b_ParseErroru_initu
  refine T.F_inputs_in.okX sc_inputs_in (spr_len (k := 1) fun ss S o S' hg => ?_) (fun cdv A outer s H vs Q E hr h => ⟨_, (pss_cons (ps_set (i := 1) sc_inputs_in.nd rfl (by first | exact Or.inl rfl | exact Or.inr rfl) (pe_meth0 (pv 0) T.cl_Lines T.me_Lines_line G_Lines_line (hr.mono (by decide)) b_Lines_line .nil (passR (takes_of rfl rfl rfl rfl)))) (pss_cons (ps_set (i := 2) sc_inputs_in.nd rfl (by first | exact Or.inl rfl | exact Or.inr rfl) (pe_ifExp (pt_truK K (pe_bm PySem.F.plainAttrs_str PySem.F.slot_str_startswith PySem.F.type_str_startswith mt_startswith (pv 1) (pa_cons (pe_glob (v := .str (Str.ofString "network ")) rfl T.m_HEAD ⟨_, rfl⟩) pa_nil))) pe_no pe_non)) (pss_cons (ps_if (PW.pt (pw_or (pt_cmpR op_isN (pv 2) pe_non (nomark _)) (pw_or1 (pt_not (pt_chain op_le op_le pe_int (pv 2) (pe_glob (v := .int 8) rfl T.m_MOST_INPUTS ⟨_, rfl⟩)))))) (pss_one (ps_raise rfl (takes_of rfl rfl rfl rfl) (pmk_oex T.ox_ParseError T.oi_ParseError T.ot_ParseError G_ParseErroru_initu (hr.mono (by decide)) b_ParseErroru_initu .nil pass0 rfl T.m_ParseError (pa_cons (pe_fld (pv 0) rfl) pa_nil)))) pss_nil) (pss_cons ps_never (pss_one ps_never))))), sp_bodyR h fun ss S o S' hg => ?_⟩)
  · obtain ⟨k, ws, rfl, _⟩ := hg; rfl
  · obtain ⟨k, ws, rfl, hk, hb, rfl, rfl⟩ := hg
    rcases hb with h1 | ⟨h2, y, hy, hne⟩
    · exact sp_asgXq (ev_methX (ev_var rfl) hk rfl ea_nil ⟨k, ws, rfl, hk, .inl ⟨h1, rfl⟩, rfl⟩) (by show XOk K E _ S' = _; rw [List.take_length])
    · refine sp_set (ev_methR (d := .str y) (ev_var rfl) hk rfl ea_nil ⟨k, ws, rfl, hk, .inr ⟨h2, y, hy, rfl⟩, rfl⟩) ?_
      refine sp_set (x := .d .non) (ev_if (b := false) (et_bl ((ev_startsS (ev_var rfl) (ea_cons ev_str ea_nil)).to (by rw [hne]))) (fun h => by cases h) fun _ => ev_non) ?_
      refine sp_ifq (b := true) (et_orP (a := true) (b := false) (et_test (ev_op (ev_var rfl) ev_non o_isNN)) fun h => by cases h) (fun _ => sp_raise1q (ea_cons (ev_fldC (ev_var rfl) hk T.cl_Lines T.na_Lines_at rfl) ea_nil) T.ox_ParseError T.nf_ParseError (by show XOk K E _ S' = _; rw [List.take_length]; rfl)) (fun h => by cases h)
end
end N87

set_option Elab.async false
set_option linter.all false
set_option maxRecDepth 100000
set_option maxHeartbeats 4000000
namespace N87
open PySem PySem.Spec PyProof.Rows L2 RW

theorem o_gtF {K : PySem.W.Frag} {S : List Dat} {i j : Int} (h : ¬ j < i) : Op2 K (rI0 fun i j => V.bl (decide (j < i))) (.d (.int i)) (.d (.int j)) S (.bl false) := by have := @o_gt K S i j; rwa [decide_eq_false h] at this
def gNdT (C : Addr) (ss : List Sl) (S : List Dat) (o : Out) (S' : List Dat) : Prop := gTxtF C ss S o S' ∨ gTxtV ss S o S'
theorem BadT.word {C X : Addr} {s w : Str} {ps : List Str} {k : Nat} {S : List Dat} (h : BadT s ps) (hk : S[k]? = some (lnD C ps 0)) (hw : w = Str.ofString "lot" ∨ w = Str.ofString "reading") : gWord C X [.c k, .d (.str w)] S (pe0 X) S := by
  refine ⟨k, ps, w, rfl, hk, ?_, rfl, rfl⟩
  rcases h.bad with h1 | ⟨h2, x, hx, hl, hr, hs⟩
  · exact .inl h1
  · refine .inr ⟨h2, x, hx, ?_⟩
    rcases hw with rfl | rfl
    · exact hl
    · exact hr
theorem BadT.inp {C X : Addr} {s : Str} {ps : List Str} {k : Nat} {S : List Dat} (h : BadT s ps) (hk : S[k]? = some (lnD C ps 0)) : gInp C X [.c k] S (pe0 X) S := by
  refine ⟨k, ps, rfl, hk, ?_, rfl, rfl⟩
  rcases h.bad with h1 | ⟨h2, x, hx, hl, hr, hs⟩
  · exact .inl h1
  · exact .inr ⟨h2, x, hx, hs⟩
section
variable {P : Program} {w : World} {K : PySem.W.Frag} {mg : Str → Option Value} {base : Heap}

theorem ok_need_text (T : Txt K mg) : FnOk P w K mg base (L2.CX P w) 1 T.a_need_text T.d_need_text ["text"] (SpR K (gNdT T.a_InvalidText)) := by
  refine T.F_need_text.okX sc_need_text (spr_len (k := 1) fun ss S o S' hg => ?_) (fun cdv A outer s H vs Q E hr h => ?_)
  · rcases hg with ⟨v, rfl, _⟩ | ⟨s, ps, rfl, _⟩ <;> rfl
  · rcases spr_or h with h | h
    · refine ⟨_, (pss_cons (ps_if (PW.pt (pw_or (pt_not (pt_truK K (pe_callB call_isi (by rfl) T.n_isinstance (by decide +kernel) (pa_cons (pv 0) (pa_cons (pe_bltn (v := .ty "str") (by rfl) T.n_str (by decide +kernel) rfl) pa_nil))))) (pw_or1 (pt_cmpR op_gt (pe_callB RwS.call_lenS (by rfl) T.n_len (by decide +kernel) (pa_cons (pv 0) pa_nil)) (pe_glob (v := .int 1200000) rfl T.m_MOST_TEXT ⟨_, rfl⟩) (nomark _))))) (pss_one (ps_raise rfl (takes_of rfl rfl rfl rfl) (pmk_own PySem.F.excBase_ValueError T.x_InvalidText T.m_InvalidText T.k_InvalidText (raises_own T.be_InvalidText T.ty_InvalidText) (by exact rfl)))) pss_nil) (pss_one ps_never)), sp_bodyR h fun ss S o S' hg => ?_⟩
      obtain ⟨v, rfl, hv, hb, rfl, rfl⟩ := hg
      exact sp_ifq (b := true) (et_orP (a := true) (b := false) (et_not (a := false) ((et_bl (ev_cb (ea_cons (ev_var rfl) (ea_cons ev_ty ea_nil)) (ck_str hv))).to hb)) fun h => by cases h) (fun _ => sp_raise0q (by show XOk K E _ S' = _; rw [List.take_length])) (fun h => by cases h)
    · refine ⟨_, (RwS.pss_guard (RwS.ptg_or (pt_not (pt_truK K (pe_callB call_isi (by rfl) T.n_isinstance (by decide +kernel) (pa_cons (pv 0) (pa_cons (pe_bltn (v := .ty "str") (by rfl) T.n_str (by decide +kernel) rfl) pa_nil))))) (RwS.ptg_cmp op_gt (RwS.peg_len (by rfl) T.n_len (pa_cons (pv 0) pa_nil)) (pe_glob (v := .int 1200000) rfl T.m_MOST_TEXT ⟨_, rfl⟩) (nomark _))) (RwS.psst_guard (RwS.ptT_or (pt_not (pt_truK K (pe_bm0 PySem.F.plainAttrs_str PySem.F.slot_str_isascii PySem.F.type_str_isascii mt_isascii (pv 0)))) (RwS.ptT_not (RwS.ptT_tru (RwS.petT_bm0 PySem.F.plainAttrs_str PySem.F.slot_str_isprintable PySem.F.type_str_isprintable mt_isprintable (CwR.pet_replC (pv 0)))))))), sp_bodyR h fun ss S o S' hg => ?_⟩
      obtain ⟨s, ps, rfl, ht, rfl, rfl⟩ := hg
      have hl := ht.len
      refine sp_guard (et_orF (et_not (a := true) (et_bl (ev_cb (ea_cons (ev_var rfl) (ea_cons ev_ty ea_nil)) (cd_isi (T := "str") rfl (by decide +kernel))))) (et_test (ev_op (ev_cb (ea_cons (ev_var rfl) ea_nil) (cd_lenT (szl (by omega)))) ev_int (o_gtF (by omega))))) ?_
      refine sp_guard1 (et_orP (a := false) (b := false) (et_not (a := true) (et_bl ((ev_bm0S (C := fun _ => True) (f := fun a => V.bl (Txt.isascii a)) (ev_var rfl) trivial fun B => .bl _).to (by rw [ht.ascii])))) fun _ => et_not (a := true) (et_bl ((ev_bm0S (C := fun _ => True) (f := fun a => V.bl (Txt.isprintable a)) (ev_repl (ev_var rfl) ?_) trivial fun B => .bl _).to (by rw [ht.print])))) ⟨rfl, List.take_length⟩
      rw [lnS (s := "") (k := 0) rfl]
      omega
theorem ok_read_lot (T : Txt K mg) : FnOk P w K mg base (L2.CX P w) 5 T.a_read_lot T.d_read_lot ["text"] (SpR K (gRead T.a_InvalidText T.a_ParseError)) := by
  have G_need_text := ok_need_text (P := P) (w := w) (base := base) T
  have b_need_text := T.b_need_text
  have G_Linesu_initu := ok_Linesu_initu (P := P) (w := w) (base := base) T
  have b_Linesu_initu := T.b_Linesu_initu
  have G_Lines_word := ok_Lines_word (P := P) (w := w) (base := base) T
  have b_Lines_word := T.b_Lines_word
  have M_Lines := T.M_Lines
  refine T.F_read_lot.okX sc_read_lot (spr_len (k := 1) fun ss S o S' hg => ?_) (fun cdv A outer s H vs Q E hr h => ⟨_, (pss_cons (ps_expr (pe_call G_need_text (hr.mono (by decide)) rfl T.m_need_text T.k_need_text b_need_text .nil (passR (takes_of rfl rfl rfl rfl)) (pa_cons (pv 0) pa_nil))) (pss_cons (ps_set (i := 1) sc_read_lot.nd rfl (by first | exact Or.inl rfl | exact Or.inr rfl) (pe_make M_Lines G_Linesu_initu (hr.mono (by decide)) rfl T.m_Lines b_Linesu_initu .nil pass0 (pa_cons (pv 0) pa_nil))) (pss_cons (ps_expr (pe_meth (pv 1) T.cl_Lines T.me_Lines_word G_Lines_word (hr.mono (by decide)) b_Lines_word .nil (passR (takes_of rfl rfl rfl rfl)) (pa_cons pe_str pa_nil))) (pss_cons ps_never (pss_cons ps_never (pss_one ps_never)))))), sp_bodyR h fun ss S o S' hg => ?_⟩)
  · rcases hg with ⟨v, rfl, _⟩ | ⟨s, ps, rfl, _⟩ <;> rfl
  · rcases hg with ⟨v, rfl, hv, hb, rfl, rfl⟩ | ⟨s, ps, rfl, hb, rfl, rfl⟩
    · exact sp_dropXq (ev_callX (ea_cons (ev_var rfl) ea_nil) (.inl ⟨v, rfl, hv, hb, rfl, rfl⟩)) (by show XOk K E _ S' = _; rw [List.take_length])
    · refine sp_drop (ev_callR (ea_cons (ev_var rfl) ea_nil) (.inr ⟨s, ps, rfl, hb.tx, rfl, rfl⟩)) ?_
      refine sp_setMk (S2 := S') (fs := [("lines", strsD ps), ("at", .int (0 : Nat))]) (ea_cons (ev_var rfl) ea_nil) ⟨S'.length, s, ps, rfl, get_app, hb.tx, rfl, set_app.symm⟩ rfl ?_
      exact sp_dropXq (ev_methX (ev_var rfl) get_app rfl (ea_cons ev_str ea_nil) (hb.word get_app (.inl rfl))) (by show XOk K E _ S' = _; rw [take_app])
theorem ok_read_reading (T : Txt K mg) : FnOk P w K mg base (L2.CX P w) 5 T.a_read_reading T.d_read_reading ["text"] (SpR K (gRead T.a_InvalidText T.a_ParseError)) := by
  have G_need_text := ok_need_text (P := P) (w := w) (base := base) T
  have b_need_text := T.b_need_text
  have G_Linesu_initu := ok_Linesu_initu (P := P) (w := w) (base := base) T
  have b_Linesu_initu := T.b_Linesu_initu
  have G_Lines_word := ok_Lines_word (P := P) (w := w) (base := base) T
  have b_Lines_word := T.b_Lines_word
  have M_Lines := T.M_Lines
  refine T.F_read_reading.okX sc_read_reading (spr_len (k := 1) fun ss S o S' hg => ?_) (fun cdv A outer s H vs Q E hr h => ⟨_, (pss_cons (ps_expr (pe_call G_need_text (hr.mono (by decide)) rfl T.m_need_text T.k_need_text b_need_text .nil (passR (takes_of rfl rfl rfl rfl)) (pa_cons (pv 0) pa_nil))) (pss_cons (ps_set (i := 1) sc_read_reading.nd rfl (by first | exact Or.inl rfl | exact Or.inr rfl) (pe_make M_Lines G_Linesu_initu (hr.mono (by decide)) rfl T.m_Lines b_Linesu_initu .nil pass0 (pa_cons (pv 0) pa_nil))) (pss_cons (ps_expr (pe_meth (pv 1) T.cl_Lines T.me_Lines_word G_Lines_word (hr.mono (by decide)) b_Lines_word .nil (passR (takes_of rfl rfl rfl rfl)) (pa_cons pe_str pa_nil))) (pss_cons ps_never (pss_cons ps_never (pss_cons ps_never (pss_cons ps_never (pss_one ps_never)))))))), sp_bodyR h fun ss S o S' hg => ?_⟩)
  · rcases hg with ⟨v, rfl, _⟩ | ⟨s, ps, rfl, _⟩ <;> rfl
  · rcases hg with ⟨v, rfl, hv, hb, rfl, rfl⟩ | ⟨s, ps, rfl, hb, rfl, rfl⟩
    · exact sp_dropXq (ev_callX (ea_cons (ev_var rfl) ea_nil) (.inl ⟨v, rfl, hv, hb, rfl, rfl⟩)) (by show XOk K E _ S' = _; rw [List.take_length])
    · refine sp_drop (ev_callR (ea_cons (ev_var rfl) ea_nil) (.inr ⟨s, ps, rfl, hb.tx, rfl, rfl⟩)) ?_
      refine sp_setMk (S2 := S') (fs := [("lines", strsD ps), ("at", .int (0 : Nat))]) (ea_cons (ev_var rfl) ea_nil) ⟨S'.length, s, ps, rfl, get_app, hb.tx, rfl, set_app.symm⟩ rfl ?_
      exact sp_dropXq (ev_methX (ev_var rfl) get_app rfl (ea_cons ev_str ea_nil) (hb.word get_app (.inr rfl))) (by show XOk K E _ S' = _; rw [take_app])
theorem ok_read_network (T : Txt K mg) : FnOk P w K mg base (L2.CX P w) 5 T.a_read_network T.d_read_network ["text"] (SpR K (gRead T.a_InvalidText T.a_ParseError)) := by
  have G_need_text := ok_need_text (P := P) (w := w) (base := base) T
  have b_need_text := T.b_need_text
  have G_Linesu_initu := ok_Linesu_initu (P := P) (w := w) (base := base) T
  have b_Linesu_initu := T.b_Linesu_initu
  have G_inputs_in := ok_inputs_in (P := P) (w := w) (base := base) T
  have b_inputs_in := T.b_inputs_in
  have M_Lines := T.M_Lines
  refine T.F_read_network.okX sc_read_network (spr_len (k := 1) fun ss S o S' hg => ?_) (fun cdv A outer s H vs Q E hr h => ⟨_, (pss_cons (ps_expr (pe_call G_need_text (hr.mono (by decide)) rfl T.m_need_text T.k_need_text b_need_text .nil (passR (takes_of rfl rfl rfl rfl)) (pa_cons (pv 0) pa_nil))) (pss_cons (ps_set (i := 1) sc_read_network.nd rfl (by first | exact Or.inl rfl | exact Or.inr rfl) (pe_make M_Lines G_Linesu_initu (hr.mono (by decide)) rfl T.m_Lines b_Linesu_initu .nil pass0 (pa_cons (pv 0) pa_nil))) (pss_cons (ps_set (i := 2) sc_read_network.nd rfl (by first | exact Or.inl rfl | exact Or.inr rfl) (pe_call G_inputs_in (hr.mono (by decide)) rfl T.m_inputs_in T.k_inputs_in b_inputs_in .nil (passR (takes_of rfl rfl rfl rfl)) (pa_cons (pv 1) pa_nil))) (pss_cons ps_never (pss_cons ps_never (pss_cons ps_never (pss_cons ps_never (pss_cons ps_never (pss_cons ps_never (pss_one ps_never)))))))))), sp_bodyR h fun ss S o S' hg => ?_⟩)
  · rcases hg with ⟨v, rfl, _⟩ | ⟨s, ps, rfl, _⟩ <;> rfl
  · rcases hg with ⟨v, rfl, hv, hb, rfl, rfl⟩ | ⟨s, ps, rfl, hb, rfl, rfl⟩
    · exact sp_dropXq (ev_callX (ea_cons (ev_var rfl) ea_nil) (.inl ⟨v, rfl, hv, hb, rfl, rfl⟩)) (by show XOk K E _ S' = _; rw [List.take_length])
    · refine sp_drop (ev_callR (ea_cons (ev_var rfl) ea_nil) (.inr ⟨s, ps, rfl, hb.tx, rfl, rfl⟩)) ?_
      refine sp_setMk (S2 := S') (fs := [("lines", strsD ps), ("at", .int (0 : Nat))]) (ea_cons (ev_var rfl) ea_nil) ⟨S'.length, s, ps, rfl, get_app, hb.tx, rfl, set_app.symm⟩ rfl ?_
      exact sp_asgXq (ev_callX (ea_cons (ev_var rfl) ea_nil) (hb.inp get_app)) (by show XOk K E _ S' = _; rw [take_app])
end
end N87

set_option Elab.async false
set_option linter.all false
set_option maxRecDepth 100000
set_option maxHeartbeats 4000000
namespace N87
open PySem PySem.Spec PyProof.Rows L2 RW

abbrev Vt := Int × Int × Int
def vatD (v : Vt) : Dat := .lst [.int v.1, .int v.2.1, .int v.2.2]
def drawF (v : Vt) (t : Int) : Int × Vt :=
  if 0 < v.1 then (v.1 % t, (v.1 / t, v.2.1, v.2.2)) else
    ((((((v.2.1 + 15486277 * (v.2.2 + 1)) % 2305843009213693951) * ((v.2.1 + 15486277 * (v.2.2 + 1)) % 2305843009213693951) + 101 * (v.2.2 + 1)) % 2305843009213693921 * 7369597 + (v.2.1 + 15486277 * (v.2.2 + 1)) % 2305843009213693951) / 65539) % t, (v.1, v.2.1, v.2.2 + 1))
theorem draw_nn (v : Vt) {t : Int} (h : 0 < t) : 0 ≤ (drawF v t).1 := by
  unfold drawF; split <;> exact Int.emod_nonneg _ (by omega)
theorem draw_lt (v : Vt) {t : Int} (h : 0 < t) : (drawF v t).1 < t := by
  unfold drawF; split <;> exact Int.emod_lt_of_pos _ h
def gDraw (ss : List Sl) (S : List Dat) (r : Dat) (S' : List Dat) : Prop := ∃ (k : Nat) (v : Vt) (t : Int), ss = [.c k, .d (.int t)] ∧ S[k]? = some (vatD v) ∧ 0 < t ∧ t < 2 ^ 100 ∧ r = .int (drawF v t).1 ∧ S' = S.set k (vatD (drawF v t).2)
def pickF (v : Vt) (ds : List Dat) : Dat := ds.getD (drawF v ds.length).1.toNat .non
theorem pick_in (v : Vt) {ds : List Dat} (h : ds ≠ []) : pickF v ds ∈ ds := by
  have hp : 0 < (ds.length : Int) := by have := List.length_pos_iff.mpr h; omega
  have h1 := draw_nn v hp
  have h2 := draw_lt v hp
  have hl : (drawF v ds.length).1.toNat < ds.length := by omega
  show ds.getD _ .non ∈ ds
  rw [List.getD_eq_getElem?_getD, List.getElem?_eq_getElem hl]
  exact List.getElem_mem _
def gPick (ss : List Sl) (S : List Dat) (r : Dat) (S' : List Dat) : Prop := ∃ (k : Nat) (v : Vt) (ds : List Dat), ss = [.c k, .d (.lst ds)] ∧ S[k]? = some (vatD v) ∧ ds ≠ [] ∧ ds.length ≤ 1000 ∧ r = pickF v ds ∧ S' = S.set k (vatD (drawF v ds.length).2)
theorem set_get {S : List Dat} {k : Nat} {d e : Dat} (h : S[k]? = some d) : (S.set k e)[k]? = some e := List.getElem?_set_self (List.getElem?_eq_some_iff.mp h).1
theorem ixN_nat {m p : Nat} (h : p < m) : ixN m (p : Int) = some p := by
  unfold ixN
  simp
  omega
theorem atI_nat {α : Type} {xs : List α} {p : Nat} (h : p < xs.length) : atI xs (p : Int) = some xs[p] := by
  unfold atI
  rw [ixN_nat h]
  exact List.getElem?_eq_getElem h
def cellF (ns : List Int) (i : Nat) : Int := if i < ns.length then ns.getD i 0 else 191 * (i : Nat) + 47
def big : Int := ((10 : Int) ^ (59 : Int).toNat) ^ (6 : Int).toNat
def greatF (ns : List Int) (i : Nat) : Int := ((cellF ns i).natAbs : Int) % big
def vatF (ns : List Int) (i : Nat) : Vt := (max 0 (greatF ns i - 10 ^ (16 : Int).toNat), greatF ns i % 2147483549 * 149 + 593 * (i : Nat) + 43 * b2i (decide (cellF ns i < 0)) + 11, 0)
theorem big_pos : 0 < big := by unfold big; decide +kernel
def gVat (ss : List Sl) (S : List Dat) (r : List Dat) (S' : List Dat) : Prop := ∃ (ns : List Int) (i : Nat), ss = [.d (.scr ns), .d (.int i)] ∧ r = [.int (vatF ns i).1, .int (vatF ns i).2.1, .int (vatF ns i).2.2] ∧ S' = S
def fineS : Str := Str.ofString "fine"
def fineD : Dat := .tup [.str fineS]
def toldD (s : Str) : Dat := .tup [.str (Str.ofString "raised"), .str s]
def dueD (s : Str) : Dat := if s = fineS then fineD else toldD s
def gDue (ss : List Sl) (S : List Dat) (r : Dat) (S' : List Dat) : Prop := ∃ ws : List Str, ss = [.d (.lst (ws.map Dat.str))] ∧ ws.length ≤ 1000 ∧ r = .lst (ws.map dueD) ∧ S' = S
/-! the met -/
def fineV : List V := [.str fineS]
def toldV (s : Str) : List V := [.str (Str.ofString "raised"), .str s]
theorem rep_told (K : PySem.W.Frag) (s : Str) : RepM K (.t (toldV s)) (toldD s) := ⟨_, rfl, fun _ => .cons (.str _) (.cons (.str _) .nil)⟩
theorem rep_fine (K : PySem.W.Frag) : RepM K (.t fineV) fineD := ⟨_, rfl, fun _ => .cons (.str _) .nil⟩
def rReprI : List V → Hp → VK → Prop := fun xs H Q => ∃ i : Int, xs = [.int i] ∧ i.natAbs.log2 < 1920 ∧ Q (.str (Str.ofString (toString i))) H
def tWord (s : String) : Addr → Value → Option Addr → TS := fun _ _ _ => tRet (tTup (tCons (tC (.str (Str.ofString "raised"))) (tCons (tC (.str (Str.ofString s))) tNil)))
def tSpot (C : Addr) : Addr → Value → Option Addr → TS := fun a cls d => tRet (tTup (tCons (tC (.str (Str.ofString "raised"))) (tCons (tOp rAddS (tC (.str (Str.ofString "line "))) (tCB rReprI (tCons (tXf a cls d C "spot" (tVar 1)) tNil))) tNil)))
section
variable {K : PySem.W.Frag} {mg : Str → Option Value}
def lines0 : Str := Str.ofString "line " ++ Str.ofString (toString (0 : Int))
def Cl (T : Txt K mg) : List Clause := [(.ref T.a_InvalidLot, none, tWord "lot"), (.ref T.a_InvalidReading, none, tWord "reading"), (.ref T.a_InvalidNetwork, none, tWord "network"), (.ref T.a_InvalidText, none, tWord "text"), (.ref T.a_ParseError, some 1, tSpot T.a_ParseError)]
def tFine : TE := tTup (tCons (tC (.str fineS)) tNil)
inductive RS (T : Txt K mg) : Addr → Option (Str × V) → MR → Prop
  | lot : RS T T.a_InvalidLot none (.t (toldV (Str.ofString "lot")))
  | rd : RS T T.a_InvalidReading none (.t (toldV (Str.ofString "reading")))
  | net : RS T T.a_InvalidNetwork none (.t (toldV (Str.ofString "network")))
  | txt : RS T T.a_InvalidText none (.t (toldV (Str.ofString "text")))
  | pe : RS T T.a_ParseError (some ("spot", .int 0)) (.t (toldV lines0))
theorem word_run {s : String} {Q : VK} {te0 : TE} {a : Addr} {cls : Value} {d : Option Addr} {σ : L2.St} {H : Hp} (q : Ret (.t (toldV (Str.ofString s))) H Q) : suiteRun (Dm te0 Q) none (tWord s a cls d) a σ H := ⟨by show 2 ≤ sizeLine; decide, q⟩
theorem met_ok (T : Txt K mg) : MetOk (TMet K (Cl T) tFine (.t fineV) 2) (.t fineV) (RS T) := by
  refine ⟨fun tl H Q h => ⟨EMet (RS T) Q, fun cls d σ H' hE hl => ?_, h⟩⟩
  obtain ⟨C, p, r, rfl, hr, pv, q⟩ := hE
  cases hr with
  | lot => exact ⟨true, T.em_InvalidLot_InvalidLot, fun _ a ha => word_run q, (fun z => nomatch z)⟩
  | rd => exact ⟨false, T.em_InvalidReading_InvalidLot, (fun z => nomatch z), fun _ => ⟨true, T.em_InvalidReading_InvalidReading, fun _ a ha => word_run q, (fun z => nomatch z)⟩⟩
  | net => exact ⟨false, T.em_InvalidNetwork_InvalidLot, (fun z => nomatch z), fun _ => ⟨false, T.em_InvalidNetwork_InvalidReading, (fun z => nomatch z), fun _ => ⟨true, T.em_InvalidNetwork_InvalidNetwork, fun _ a ha => word_run q, (fun z => nomatch z)⟩⟩⟩
  | txt => exact ⟨false, T.em_InvalidText_InvalidLot, (fun z => nomatch z), fun _ => ⟨false, T.em_InvalidText_InvalidReading, (fun z => nomatch z), fun _ => ⟨false, T.em_InvalidText_InvalidNetwork, (fun z => nomatch z), fun _ => ⟨true, T.em_InvalidText_InvalidText, fun _ a ha => word_run q, (fun z => nomatch z)⟩⟩⟩⟩
  | pe =>
    refine ⟨false, T.em_ParseError_InvalidLot, (fun z => nomatch z), fun _ => ⟨false, T.em_ParseError_InvalidReading, (fun z => nomatch z), fun _ => ⟨false, T.em_ParseError_InvalidNetwork, (fun z => nomatch z), fun _ => ⟨false, T.em_ParseError_InvalidText, (fun z => nomatch z), fun _ => ⟨true, T.em_ParseError_ParseError, fun _ a ha => ?_, (fun z => nomatch z)⟩⟩⟩⟩⟩
    obtain ⟨dd, rfl, hdd⟩ := pv
    refine ⟨.ref a, ?_, rfl, rfl, dd, _, .int 0, rfl, hdd, rfl, 0, rfl, by decide, ?_⟩
    · show (σ.set 1 (some (V.ref a)))[1]? = _
      exact List.getElem?_set_self (by omega)
    · refine ⟨Str.ofString "line ", Str.ofString (toString (0 : Int)), rfl, rfl, by decide +kernel, by show 2 ≤ sizeLine; decide, q⟩
end
theorem lam__law_word {X : Cx} {T : Txt X.K X.mg} {c P : Addr} {k : Nat} {params : Arguments} {body : Expr} {scope : Scope} {t : XK → TE} {p lpos pos : Pos} {tabs : List (Addr × Str)} (hmT : (P, X.env.qual ++ "<lambda>") ∈ tabs) (hu : ∀ p ∈ tabs, p.1 = P → p.2 = X.env.qual ++ "<lambda>")
    (TB : LamX.TabB X.base X.mg c P) (hcode : X.env.code = .ref c) (hr : Room (k + 2) X.A) (hg : Gl X "_law_word") (L : LamX.LamS X.env.scope scope) (hdef : defaultsOf params X.env = ([], []))
    (hbind : ∀ (q : Str) (cl : List (Str × Addr)) (pm cv ctv : Value), bindArgs (PySem.W.kla_fn "<lambda>" q params body scope cl pm cv ctv) ⟨[], []⟩ = pure [])
    (hbody : ∀ (A : Around) (outer : List Env) (s : Shared) (H : Hp) (E : XK) (f c' : Addr), Room k (A.deeper (LamX.lamEnv X scope s.heap.objs.size f c')) → PE (LamX.lamCx X A outer s H E scope f c') body (t E)) :
    PE X (.Call (.Name "_law_word" p) [.Lambda params body scope lpos] [] pos) (LamX.tLam tabs (TMet X.K (Cl T) tFine (.t fineV) 2) t) := by
  obtain ⟨oc, od, kV, doc, pm, an, cdv, ct, osl, e, lk, hc⟩ := T.F__law_word.ex
  have hb := T.b__law_word
  rw [e] at lk hb
  refine LamX.pe_lamcall hg T.m__law_word T.k__law_word lk hc hb sc__law_word rfl (Or.inl rfl) (met_gives (fun s H => ?_) (fun s H => ?_) (fun _ => rfl) fun _ _ _ => ?_) TB hcode hmT hu hr L hdef hbind hbody
  · refine .bare ⟨rfl, by decide, .inl T.m_InvalidLot⟩ (fun a oe cls d pn hz hf => pss_one (ps_ret (pe_tup (pa_cons pe_str (pa_cons pe_str pa_nil))))) ?_
    refine .bare ⟨rfl, by decide, .inl T.m_InvalidReading⟩ (fun a oe cls d pn hz hf => pss_one (ps_ret (pe_tup (pa_cons pe_str (pa_cons pe_str pa_nil))))) ?_
    refine .bare ⟨rfl, by decide, .inl T.m_InvalidNetwork⟩ (fun a oe cls d pn hz hf => pss_one (ps_ret (pe_tup (pa_cons pe_str (pa_cons pe_str pa_nil))))) ?_
    refine .bare ⟨rfl, by decide, .inl T.m_InvalidText⟩ (fun a oe cls d pn hz hf => pss_one (ps_ret (pe_tup (pa_cons pe_str (pa_cons pe_str pa_nil))))) ?_
    refine .named (m := "error") ⟨rfl, by decide, .inl T.m_ParseError⟩ (by show (["call", "error"] : List Str).Nodup; decide) rfl rfl (fun a oe cls d pn hz hf => pss_one (ps_ret (pe_tup (pa_cons pe_str (pa_cons (pe_op op_addS pe_str (pe_callB SkE.call_repr_int (by rfl) T.n_repr (by decide +kernel) (pa_cons (pe_xf T.xf_ParseError T.nf_ParseError hz hf (pv 1)) pa_nil))) pa_nil))))) .nil
  · exact pe_tup (pa_cons pe_str pa_nil)
  · exact ⟨fun h => h.2, fun h => ⟨by show 1 ≤ sizeLine; decide, h⟩⟩
end N87

set_option Elab.async false
set_option linter.all false
set_option maxRecDepth 100000
set_option maxHeartbeats 4000000
namespace N87
open PySem PySem.Spec PyProof.Rows L2 RW

theorem op2_ixS {K : PySem.W.Frag} {S : List Dat} {ns : List Int} {i : Int} {u : Int} (h : atI (ns.map V.int) i = some (V.int u)) : Op2 K (rIx K) (.d (.scr ns)) (.d (.int i)) S (.int u) := fun B H as v w c h1 h2 Q q => by
  cases h2
  cases h1 with
  | scr h1 => exact .inl ⟨_, _, i, _, rfl, rfl, Evl.ex_l c.ex h1, h, q _ B H c Evo.refl (.int u)⟩
theorem raw_set {K : PySem.W.Frag} {te : TE} {env : Env1} {S S1 : List Dat} {x : Sl} {i : Nat} {u : TS} {D : Ends} {B H : Hp} {as : List Addr} {σ : L2.St} (h : Ev K te env S x S1) (c : Ok K B H as S) (g : EnvR K B as σ env)
    (q : ∀ B1 H1 v, Ok K B1 H1 as S1 → Evo B H as B1 H1 → EnvR K B1 as (σ.set i (some v)) (env.set i (some x)) → u D (σ.set i (some v)) H1) : tSeq (tAsg te (gName i)) u D σ H :=
  h B H as σ c g _ fun v B1 H1 c1 e1 r1 => q B1 H1 v c1 e1 ((g.mono e1.ex).set i r1)
theorem raw_retN {K : PySem.W.Frag} {te : TE} {env : Env1} {S S1 ds : List Dat} {D : Ends} {B H : Hp} {as : List Addr} {σ : L2.St} (h : EvN K te env S ds S1) (c : Ok K B H as S) (g : EnvR K B as σ env)
    (q : ∀ p B' H' vs, Ok K B' H' as S1 → Evo B H as B' H' → Fresh H as p → B' p = none → H' p = some (.lst vs) → Reps K B' vs ds → D.rt (.ref p) H') : tRet te D σ H := h B H as σ c g _ q
theorem set_set2 {S : List Dat} {k : Nat} {d e : Dat} : (S.set k d).set k e = S.set k e := List.set_set ..
theorem o_fine {K : PySem.W.Frag} {S : List Dat} {s : Str} : Op2 K rEq (.d (.str s)) (.d (.str fineS)) S (.bl (decide (s = fineS))) := o_eqS
section
variable {P : Program} {w : World} {K : PySem.W.Frag} {mg : Str → Option Value} {base : Heap}

theorem ok__law_dealt (T : Txt K mg) : FnOk P w K mg base CX0 1 T.a__law_dealt T.d__law_dealt ["pack", "total"] (SpD K (gDraw)) := by
  refine T.F__law_dealt.ok sc__law_dealt (spd_len (k := 2) fun ss S r S' hg => ?_) (fun cdv A outer s H vs Q E hr h => ⟨_, (pss_cons (ps_if (pt_cmpR op_gt (pe_ix (ix_seqK K) (pv 0) pe_int (fun _ _ => rfl)) pe_int (nomark _)) (pss_cons (ps_set (i := 2) sc__law_dealt.nd rfl (by first | exact Or.inl rfl | exact Or.inr rfl) (pe_op op_mod (pe_callTy call_intD (by rfl) T.n_int (by decide +kernel) (pa_cons (pe_ix (ix_seqK K) (pv 0) pe_int (fun _ _ => rfl)) pa_nil)) (pv 1))) (pss_cons (ps_asg (pe_op op_fdivW (pe_ix (ix_seqK K) (pv 0) pe_int (fun _ _ => rfl)) (pv 1)) (pg_sub (pv 0) pe_int set_list)) (pss_one (ps_ret (pv 2))))) pss_nil) (pss_cons (ps_asg (pe_op op_add (pe_ix (ix_seqK K) (pv 0) pe_int (fun _ _ => rfl)) pe_int) (pg_sub (pv 0) pe_int set_list)) (pss_cons (ps_set (i := 3) sc__law_dealt.nd rfl (by first | exact Or.inl rfl | exact Or.inr rfl) (pe_op op_mod (pe_callTy call_intD (by rfl) T.n_int (by decide +kernel) (pa_cons (pe_op op_add (pe_ix (ix_seqK K) (pv 0) pe_int (fun _ _ => rfl)) (pe_op op_mul pe_int (pe_ix (ix_seqK K) (pv 0) pe_int (fun _ _ => rfl)))) pa_nil)) pe_int)) (pss_cons (ps_set (i := 4) sc__law_dealt.nd rfl (by first | exact Or.inl rfl | exact Or.inr rfl) (pe_op op_add (pe_op op_mul (pe_op op_mod (pe_callTy call_intD (by rfl) T.n_int (by decide +kernel) (pa_cons (pe_op op_add (pe_op op_mul (pv 3) (pv 3)) (pe_op op_mul pe_int (pe_ix (ix_seqK K) (pv 0) pe_int (fun _ _ => rfl)))) pa_nil)) pe_int) pe_int) (pv 3))) (pss_one (ps_ret (pe_op op_mod (pe_callTy call_intD (by rfl) T.n_int (by decide +kernel) (pa_cons (pe_op op_fdivW (pv 4) pe_int) pa_nil)) (pv 1)))))))), sp_body h fun ss S r S' hg => ?_⟩)
  · obtain ⟨i, n, l, rfl, _⟩ := hg; rfl
  · obtain ⟨k, v, t, rfl, hk, ht, htw, rfl, rfl⟩ := hg
    have hs : ∀ (x : Dat), (S.set k x).take S.length = S.set k x := fun x => List.take_of_length_le (by simp)
    refine sp_ifq (b := decide (0 < v.1)) (et_test (ev_op (ev_op (ev_var rfl) ev_int (op2_ix (.cell hk) rfl)) ev_int o_gt)) (fun hh => ?_) fun hh => sp_nextq ?_
    · have hp := of_decide_eq_true hh
      refine sp_assoc (sp_set (ev_op (ev_cb (ea_cons (ev_op (ev_var rfl) ev_int (op2_ix (.cell hk) rfl)) ea_nil) cd_int) (ev_var rfl) (o_mod ht)) (sp_assoc (sp_setitem (j := 0) (ev_op (ev_op (ev_var rfl) ev_int (op2_ix (.cell hk) rfl)) (ev_var rfl) (o_fdivW ⟨ht, ?_⟩)) (ev_var rfl) ev_int hk rfl (sp_retq (sp_ret (ev_var rfl) ⟨?_, ?_⟩)))))
      · have h2 : t.natAbs < 2 ^ 100 := by omega
        have : t.natAbs.log2 < 100 := (Nat.log2_lt (by omega)).mpr h2
        omega
      · unfold drawF; rw [if_pos hp]
      · rw [hs]; unfold drawF; rw [if_pos hp]; rfl
    · have hp := of_decide_eq_false hh
      have h1 : ∀ x : Int, 0 ≤ x % 2305843009213693951 ∧ x % 2305843009213693951 < 2305843009213693951 := fun x => ⟨Int.emod_nonneg _ (by decide), Int.emod_lt_of_pos _ (by decide)⟩
      refine sp_setitem (j := 2) (ev_op (ev_op (ev_var rfl) ev_int (op2_ix (.cell hk) rfl)) ev_int o_add) (ev_var rfl) ev_int hk rfl ?_
      have hk2 := set_get (e := .lst [.int v.1, .int v.2.1, .int (v.2.2 + 1)]) hk
      refine sp_set (ev_op (ev_cb (ea_cons (ev_op (ev_op (ev_var rfl) ev_int (op2_ix (.cell hk2) rfl)) (ev_op ev_int (ev_op (ev_var rfl) ev_int (op2_ix (.cell hk2) rfl)) (o_mul (cm_l (by decide) (by decide)))) o_add) ea_nil) cd_int) ev_int (o_mod (by decide))) ?_
      refine sp_set (ev_op (ev_op (ev_op (ev_cb (ea_cons (ev_op (ev_op (ev_var rfl) (ev_var rfl) (o_mul (cm_l ?_ ?_))) (ev_op ev_int (ev_op (ev_var rfl) ev_int (op2_ix (.cell hk2) rfl)) (o_mul (cm_l (by decide) (by decide)))) o_add) ea_nil) cd_int) ev_int (o_mod (by decide))) ev_int (o_mul (cm_r (by decide) (by decide)))) (ev_var rfl) o_add) ?_
      · have := h1 (v.2.1 + 15486277 * (v.2.2 + 1)); omega
      · have := h1 (v.2.1 + 15486277 * (v.2.2 + 1)); omega
      · refine sp_ret (ev_op (ev_cb (ea_cons (ev_op (ev_var rfl) ev_int (o_fdivW ⟨by decide, by decide⟩)) ea_nil) cd_int) (ev_var rfl) (o_mod ht)) ⟨?_, ?_⟩
        · unfold drawF; rw [if_neg hp]
        · refine (hs _).trans ?_
          unfold drawF; rw [if_neg hp]; rfl
theorem ok__law_one_of (T : Txt K mg) : FnOk P w K mg base CX0 2 T.a__law_one_of T.d__law_one_of ["pack", "items"] (SpD K (gPick)) := by
  have G__law_dealt := ok__law_dealt (P := P) (w := w) (base := base) T
  have b__law_dealt := T.b__law_dealt
  refine T.F__law_one_of.ok sc__law_one_of (spd_len (k := 2) fun ss S r S' hg => ?_) (fun cdv A outer s H vs Q E hr h => ⟨_, (pss_one (ps_ret (pe_ix (ix_seqK K) (pv 1) (pe_call G__law_dealt (hr.mono (by decide)) rfl T.m__law_dealt T.k__law_dealt b__law_dealt .nil pass0 (pa_cons (pv 0) (pa_cons (pe_callB (call_lenK K) (by rfl) T.n_len (by decide +kernel) (pa_cons (pv 1) pa_nil)) pa_nil))) (fun _ _ => rfl)))), sp_body h fun ss S r S' hg => ?_⟩)
  · obtain ⟨i, n, l, rfl, _⟩ := hg; rfl
  · obtain ⟨k, v, ds, rfl, hk, hne, hl, rfl, rfl⟩ := hg
    have hp : 0 < (ds.length : Int) := by have := List.length_pos_iff.mpr hne; omega
    have h1 := draw_nn v hp
    have h2 := draw_lt v hp
    have hlt : (drawF v ds.length).1.toNat < ds.length := by omega
    refine sp_ret (S1 := S.set k (vatD (drawF v ds.length).2)) (ev_op (ev_var rfl) (ev_call (ea_cons (ev_var rfl) (ea_cons (ev_cb (ea_cons (ev_var rfl) ea_nil) (cd_len .lst)) ea_nil)) ⟨k, v, ds.length, rfl, hk, hp, by omega, rfl, rfl⟩) (op2_ix .lst ?_)) ⟨rfl, List.take_of_length_le (by simp)⟩
    have e : (drawF v ds.length).1 = ((drawF v ds.length).1.toNat : Int) := by omega
    rw [e]
    refine (atI_nat hlt).trans ?_
    show _ = some (ds.getD _ .non)
    rw [List.getD_eq_getElem?_getD, List.getElem?_eq_getElem hlt]; rfl
theorem ok__law_pack (T : Txt K mg) : FnOk P w K mg base CX0 1 T.a__law_pack T.d__law_pack ["script", "spot"] (SpN K gVat) := by
  refine T.F__law_pack.ok sc__law_pack (spn_len (k := 2) fun ss S r S' hg => ?_) (fun cdv A outer s H vs Q E hr h => ⟨_, (pss_cons (ps_set (i := 2) sc__law_pack.nd rfl (by first | exact Or.inl rfl | exact Or.inr rfl) (pe_ifExp (pt_cmpR op_lt (pv 1) (pe_callB (call_lenK K) (by rfl) T.n_len (by decide +kernel) (pa_cons (pv 0) pa_nil)) (nomark _)) (pe_callTy call_intD (by rfl) T.n_int (by decide +kernel) (pa_cons (pe_ix (ix_seqK K) (pv 0) (pv 1) (fun _ _ => rfl)) pa_nil)) (pe_op op_add (pe_op op_mul pe_int (pv 1)) pe_int))) (pss_cons (ps_set (i := 3) sc__law_pack.nd rfl (by first | exact Or.inl rfl | exact Or.inr rfl) (pe_op op_mod (pe_callTy call_intD (by rfl) T.n_int (by decide +kernel) (pa_cons (pe_callB call_absD (by rfl) T.n_abs (by decide +kernel) (pa_cons (pv 2) pa_nil)) pa_nil)) (pe_op op_powW (pe_op op_powW pe_int pe_int) pe_int))) (pss_one (ps_ret (pe_lst (pa_cons (pe_callB (call_max2D rfl) (by rfl) T.n_max (by decide +kernel) (pa_cons pe_int (pa_cons (pe_op op_sub (pv 3) (pe_op op_powW pe_int pe_int)) pa_nil))) (pa_cons (pe_op op_add (pe_op op_add (pe_op op_add (pe_op op_mul (pe_op op_mod (pe_callTy call_intD (by rfl) T.n_int (by decide +kernel) (pa_cons (pv 3) pa_nil)) pe_int) pe_int) (pe_op op_mul pe_int (pv 1))) (pe_op op_mul pe_int (pe_callTy call_intD (by rfl) T.n_int (by decide +kernel) (pa_cons (pe_cmpR op_lt (pv 2) pe_int (nomark _)) pa_nil)))) pe_int) (pa_cons pe_int pa_nil)))))))), ?_⟩)
  · obtain ⟨i, n, rfl, _⟩ := hg; rfl
  · obtain ⟨B, as, S, ss, r, S', c, rs, ⟨ns, i, rfl, rfl, rfl⟩, q⟩ := h
    have g := EnvR.start (N := ["script", "spot", "cell", "great"]) rs
    refine raw_set (x := .d (.int (cellF ns i))) (S1 := S') (ev_if (b := decide ((i : Int) < ns.length)) (S1 := S') (et_test (ev_op (ev_var rfl) (ev_cb (ea_cons (ev_var rfl) ea_nil) cd_lenS) o_lt)) (fun hh => ?_) fun hh => ?_) c g fun B1 H1 v c1 x1 g1 => ?_
    · have hlt : i < ns.length := by have := of_decide_eq_true hh; omega
      refine (ev_cb (ea_cons (ev_op (ev_var rfl) (ev_var rfl) (op2_ixS (u := ns.getD i 0) ?_)) ea_nil) cd_int).to ?_
      · rw [atI_nat (by rw [List.length_map]; exact hlt), List.getElem_map, List.getD_eq_getElem?_getD, List.getElem?_eq_getElem hlt]; rfl
      · unfold cellF; rw [if_pos hlt]
    · have hlt : ¬ i < ns.length := by have := of_decide_eq_false hh; omega
      refine (ev_op (ev_op ev_int (ev_var rfl) (o_mul (cm_l (by decide) (by decide)))) ev_int o_add).to ?_
      unfold cellF; rw [if_neg hlt]
    · refine raw_set (x := .d (.int (greatF ns i))) (S1 := S') (ev_op (ev_cb (ea_cons (ev_cb (ea_cons (ev_var rfl) ea_nil) cd_abs) ea_nil) cd_int) (ev_op (ev_op ev_int ev_int (o_powW ⟨by decide, by decide⟩)) ev_int (o_powW ⟨by decide, by decide +kernel⟩)) (o_mod big_pos)) c1 g1 fun B2 H2 v2 c2 x2 g2 => ?_
      refine raw_retN (ds := [.int (vatF ns i).1, .int (vatF ns i).2.1, .int (vatF ns i).2.2]) (S1 := S') (en_lst (ea_cons (ev_cb (ea_cons ev_int (ea_cons (ev_op (ev_var rfl) (ev_op ev_int ev_int (o_powW ⟨by decide, by decide⟩)) o_sub) ea_nil)) cd_max2) (ea_cons (ev_op (ev_op (ev_op (ev_op (ev_op (ev_cb (ea_cons (ev_var rfl) ea_nil) cd_int) ev_int (o_mod (by decide))) ev_int (o_mul (cm_r (by decide) (by decide)))) (ev_op ev_int (ev_var rfl) (o_mul (cm_l (by decide) (by decide)))) o_add) (ev_op ev_int (ev_cb (ea_cons (ev_op (ev_var rfl) ev_int o_lt) ea_nil) cd_intB) (o_mul (cm_l (by decide) (by decide)))) o_add) ev_int o_add) (ea_cons ev_int ea_nil))) (by show 3 ≤ sizeLine; decide)) c2 g2 fun p B3 H3 ws c3 x3 hp hb hl r3 => q p B3 H3 ws c3 ((x1.trans x2).trans x3) ⟨hp.1, (x1.trans x2).oldN hp.2⟩ hb hl r3
theorem ok__law_due (T : Txt K mg) : FnOk P w K mg base CX0 1 T.a__law_due T.d__law_due ["words"] (SpD K (gDue)) := by
  refine T.F__law_due.ok sc__law_due (spd_len (k := 1) fun ss S r S' hg => ?_) (fun cdv A outer s H vs Q E hr h => ⟨_, (pss_one (ps_ret (pe_lc (own := [("word", 1)]) rfl sc__law_due.nd (pi_seqK K (pv 0)) (blkOk_by (own := [("word", 1)]) (N := ["words", "word"]) (sc := (defScope s__law_due)) (by decide +kernel)) (fun _ _ _ _ _ => (pg_name (i := 1) sc__law_due.nd rfl (by first | exact Or.inl rfl | exact Or.inr rfl))) (fun _ _ _ _ _ => pts_nil) (fun _ _ _ _ _ => (pe_ifExp (pt_cmpR op_eq (pv 1) pe_str (nomark _)) (pe_tup (pa_cons pe_str pa_nil)) (pe_tup (pa_cons pe_str (pa_cons (pv 1) pa_nil)))))))), sp_body h fun ss S r S' hg => ?_⟩)
  · obtain ⟨i, rfl, _⟩ := hg; rfl
  · obtain ⟨ws, rfl, hl, rfl, rfl⟩ := hg
    refine sp_ret (EvN.ev (EvN.toD (en_mapA (xs := ws) (g := Dat.str) (is := [1]) dueD (it_lst (ev_var rfl)) (size_1000 hl) (fun _ _ => trivial) (by decide) (fun s env => env.set 1 (some (.d (.str s)))) fun s hs => ⟨tg_name, ?_⟩) rfl)) ⟨rfl, List.take_length⟩
    refine ev_if (b := decide (s = fineS)) (et_test (ev_op (ev_var rfl) ev_str o_eqS)) (fun h => ?_) fun h => ?_
    · refine (ev_tup (ds := [.str fineS]) (ea_cons ev_str ea_nil) (by show 1 ≤ sizeLine; decide)).to ?_
      unfold dueD; rw [if_pos (of_decide_eq_true h)]; rfl
    · refine (ev_tup (ds := [.str (Str.ofString "raised"), .str s]) (ea_cons ev_str (ea_cons (ev_var rfl) ea_nil)) (by show 2 ≤ sizeLine; decide)).to ?_
      unfold dueD; rw [if_neg (of_decide_eq_false h)]; rfl
end
end N87

set_option Elab.async false
set_option linter.all false
set_option maxRecDepth 100000
set_option maxHeartbeats 4000000
namespace N87
open PySem PySem.Spec PyProof.Rows L2 RW

abbrev qLam (x : Str) : Str := x ++ ".<locals>." ++ "<lambda>"
section
variable {P : Program} {w : World} {K : PySem.W.Frag} {mg : Str → Option Value} {base : Heap}
def tabs (T : Txt K mg) : List (Addr × Str) := [(T.P__law_right, qLam "_law_right"), (T.P_law, qLam "law")]
theorem pne2 (T : Txt K mg) : T.P__law_right ≠ T.P_law := fun e => by
  have := T.pne
  rw [e] at this
  simp at this
theorem tm1 (T : Txt K mg) : (T.P__law_right, qLam "_law_right") ∈ tabs T := List.mem_cons_self
theorem tm0 (T : Txt K mg) : (T.P_law, qLam "law") ∈ tabs T := List.mem_cons_of_mem _ List.mem_cons_self
theorem tu1 (T : Txt K mg) : ∀ p ∈ tabs T, p.1 = T.P__law_right → p.2 = qLam "_law_right" := fun p hp e => by
  rcases List.mem_cons.mp hp with rfl | hp
  · rfl
  · rw [List.mem_singleton.mp hp] at e
    exact absurd e.symm (pne2 T)
theorem tu0 (T : Txt K mg) : ∀ p ∈ tabs T, p.1 = T.P_law → p.2 = qLam "law" := fun p hp e => by
  rcases List.mem_cons.mp hp with rfl | hp
  · exact absurd e (pne2 T)
  · rw [List.mem_singleton.mp hp]
def Mrd (T : Txt K mg) : Addr → Option Sp := fun f => if f = T.a_read_lot ∨ f = T.a_read_reading ∨ f = T.a_read_network then some (SpR K (gRead T.a_InvalidText T.a_ParseError)) else none
theorem held (T : Txt K mg) : ∀ f sp, Mrd T f = some sp → HeldX P w K mg base 5 f sp := fun f sp h => by
  unfold Mrd at h
  split at h
  · rename_i hf
    cases h
    rcases hf with rfl | rfl | rfl
    · exact ⟨_, _, ok_read_lot T, T.k_read_lot, T.b_read_lot⟩
    · exact ⟨_, _, ok_read_reading T, T.k_read_reading, T.b_read_reading⟩
    · exact ⟨_, _, ok_read_network T, T.k_read_network, T.b_read_network⟩
  · cases h
end
theorem at_same {T : List (Addr × Str)} {S S' : List Dat} (h : AllTabs T S) (e : ∀ (k : Nat) (P : Addr) (q : Str), S'[k]? = some (Dat.tab P q) ↔ S[k]? = some (Dat.tab P q)) : AllTabs T S' :=
  ⟨fun p hp => (h.1 p hp).imp fun k hk => (e k _ _).mpr hk, fun k P q hk => h.2 k P q ((e k P q).mp hk)⟩
theorem at_setl {T : List (Addr × Str)} {S : List Dat} {j : Nat} {xs ys : List Dat} (h : AllTabs T S) (hj : S[j]? = some (.lst ys)) : AllTabs T (S.set j (.lst xs)) := at_same h fun k P q => by
  by_cases hk : j = k
  · subst hk
    rw [hj, List.getElem?_set_self (List.getElem?_eq_some_iff.mp hj).1]
    exact ⟨fun z => (by cases z), fun z => (by cases z)⟩
  · rw [List.getElem?_set_ne hk]
theorem at_app {T : List (Addr × Str)} {S : List Dat} {xs : List Dat} (h : AllTabs T S) : AllTabs T (S ++ [.lst xs]) := at_same h fun k P q => by
  rcases Nat.lt_or_ge k S.length with hk | hk
  · rw [List.getElem?_append_left hk]
  · rw [List.getElem?_append_right hk, List.getElem?_eq_none hk]
    refine ⟨fun z => ?_, fun z => (by cases z)⟩
    rcases Nat.eq_or_lt_of_le hk with e | e
    · rw [e, Nat.sub_self] at z; cases z
    · rw [List.getElem?_eq_none (by simp; omega)] at z; cases z
/-! the menus -/
theorem kn : ∀ d ∈ ([] : List Dat), KD d := fun _ h => by cases h
theorem kc {x : Dat} {xs : List Dat} (h : KD x) (t : ∀ d ∈ xs, KD d) : ∀ d ∈ x :: xs, KD d := fun d hd => by
  rcases List.mem_cons.mp hd with rfl | hd
  · exact h
  · exact t d hd
abbrev i0 : Dat := .int 0
abbrev row2 (a b : Int) : Dat := .tup [.int a, .int b]
abbrev z00 : Dat := .tup [row2 0 0]
def BADS : List Dat := [.non, i0, .tup [], .str (Str.ofString "lot"), .tup [row2 1 0, row2 0 0], .tup [row2 0 0, .tup [i0]], .lst [row2 0 0], .tup [.tup [i0, .bl true]], .tup [.tup [.int (10 ^ (60 : Int).toNat)]], .dd, .tup [.tup (List.replicate (9 : Int).toNat [i0]).flatten]]
def NONES (bad : Dat) : List Dat := [.non, i0, .tup [], .str (Str.ofString "reading"), .tup [z00], .tup [bad, z00], .tup [z00, bad], .tup [.tup [.tup [i0]], z00], .dd]
def ODDS : List Dat := [.non, i0, .tup [], .str (Str.ofString "network"), .tup [.int 2, .tup [], row2 0 0], .dd, .lst [.int 1]]
def SHOWN : List Dat := [.non, .int 5, .tup [.str (Str.ofString "lot")], .lst [.str (Str.ofString "lot")], .bl true, .tup [], .dd, z00]
theorem bads_kd : ∀ d ∈ BADS, KD d := by
  unfold BADS
  have e : (List.replicate (9 : Int).toNat [i0]).flatten = [i0, i0, i0, i0, i0, i0, i0, i0, i0] := rfl
  rw [e]
  repeat (first | exact kn | (refine kc ?_ ?_) | assumption | exact KD.non | exact KD.bl _ | exact KD.int _ | exact KD.str _ | exact KD.dd | refine KD.tup ?_ (Nat.le_of_ble_eq_true rfl) | refine KD.lst ?_ (Nat.le_of_ble_eq_true rfl))
theorem bads_no : ∀ d ∈ BADS, lotB d = false := by
  unfold BADS
  simp only [List.forall_mem_cons]
  refine ⟨rfl, rfl, rfl, rfl, ?_, ?_, rfl, ?_, ?_, rfl, ?_, fun _ h => by cases h⟩ <;> decide +kernel
theorem nones_kd {bad : Dat} (h : KD bad) : ∀ d ∈ NONES bad, KD d := by
  unfold NONES
  repeat (first | exact kn | (refine kc ?_ ?_) | assumption | exact KD.non | exact KD.bl _ | exact KD.int _ | exact KD.str _ | exact KD.dd | refine KD.tup ?_ (Nat.le_of_ble_eq_true rfl) | refine KD.lst ?_ (Nat.le_of_ble_eq_true rfl))
theorem nones_no {bad : Dat} (h : lotB bad = false) : ∀ d ∈ NONES bad, rdB d = false := by
  unfold NONES
  simp only [List.forall_mem_cons]
  refine ⟨rfl, rfl, rfl, rfl, rfl, ?_, ?_, ?_, rfl, fun _ h => by cases h⟩
  · show (lotB bad && _ && _) = false
    rw [h]; rfl
  · show (_ && lotB bad && _) = false
    rw [h, Bool.and_false]; rfl
  · decide +kernel
theorem odds_kd : ∀ d ∈ ODDS, KD d := by
  unfold ODDS
  repeat (first | exact kn | (refine kc ?_ ?_) | assumption | exact KD.non | exact KD.bl _ | exact KD.int _ | exact KD.str _ | exact KD.dd | refine KD.tup ?_ (Nat.le_of_ble_eq_true rfl) | refine KD.lst ?_ (Nat.le_of_ble_eq_true rfl))
theorem shown_kd : ∀ d ∈ SHOWN, KD d := by
  unfold SHOWN
  repeat (first | exact kn | (refine kc ?_ ?_) | assumption | exact KD.non | exact KD.bl _ | exact KD.int _ | exact KD.str _ | exact KD.dd | refine KD.tup ?_ (Nat.le_of_ble_eq_true rfl) | refine KD.lst ?_ (Nat.le_of_ble_eq_true rfl))
theorem shown_no : ∀ d ∈ SHOWN, isStrD d = false := by
  unfold SHOWN
  simp only [List.forall_mem_cons]
  refine ⟨rfl, rfl, rfl, rfl, rfl, rfl, rfl, rfl, fun _ h => by cases h⟩
/-! what is told -/
def three : List Dat := [toldD (Str.ofString "text"), toldD lines0, toldD lines0]
def toldL (i : Nat) : List Dat := [toldD (Str.ofString "lot"), toldD (Str.ofString "reading"), toldD (Str.ofString "network")] ++ (List.replicate i three).flatten
theorem told_len (i : Nat) : (toldL i).length = 3 + i * 3 := by
  unfold toldL
  rw [List.length_append, List.length_flatten, List.map_replicate]
  have : ∀ i : Nat, (List.replicate i three.length).sum = i * 3 := fun i => by
    induction i with
    | zero => rfl
    | succ i ih => rw [List.replicate_succ, List.sum_cons, ih]; show 3 + i * 3 = _; omega
  rw [this]
  rfl
theorem told_next (i : Nat) : toldL (i + 1) = ((toldL i ++ [toldD (Str.ofString "text")]) ++ [toldD lines0]) ++ [toldD lines0] := by
  unfold toldL
  rw [List.replicate_succ', List.flatten_append]
  simp [three]
def words : List Str := [Str.ofString "lot", Str.ofString "reading", Str.ofString "network", Str.ofString "text", Str.ofString "line 0", Str.ofString "line 0", Str.ofString "text", Str.ofString "line 0", Str.ofString "line 0", Str.ofString "text", Str.ofString "line 0", Str.ofString "line 0"]
theorem lines0_eq : lines0 = Str.ofString "line 0" := by unfold lines0; exact TL.ext_tl (by rw [TL.tl_append, TL.tl_ofString, TL.tl_ofString, TL.tl_ofString]; decide +kernel)
theorem due_ne {s : Str} (h : decide (s = fineS) = false) : dueD s = toldD s := if_neg (of_decide_eq_false h)
theorem due_words : words.map dueD = toldL 3 := by
  have e1 : dueD (Str.ofString "lot") = toldD (Str.ofString "lot") := due_ne (by decide +kernel)
  have e2 : dueD (Str.ofString "reading") = toldD (Str.ofString "reading") := due_ne (by decide +kernel)
  have e3 : dueD (Str.ofString "network") = toldD (Str.ofString "network") := due_ne (by decide +kernel)
  have e4 : dueD (Str.ofString "text") = toldD (Str.ofString "text") := due_ne (by decide +kernel)
  have e5 : dueD (Str.ofString "line 0") = toldD (Str.ofString "line 0") := due_ne (by decide +kernel)
  unfold words toldL three
  rw [lines0_eq]
  simp only [List.map_cons, List.map_nil, e1, e2, e3, e4, e5]
  rfl
theorem pl_told {s : Str} (h : (PyData.str s).canLay0 = true) : Pl 1 (toldD s) := .tup fun d hd => by
  simp only [List.mem_cons, List.not_mem_nil, or_false] at hd
  rcases hd with rfl | rfl
  · exact .str (by decide +kernel)
  · exact .str h
theorem pl_words : Pl 2 (.lst (toldL 3)) := .lst fun d hd => by
  rw [← due_words] at hd
  have e5 : ∀ s ∈ words, decide (s = fineS) = false ∧ (PyData.str s).canLay0 = true := by
    unfold words
    simp only [List.forall_mem_cons]
    refine ⟨⟨?_, ?_⟩, ⟨?_, ?_⟩, ⟨?_, ?_⟩, ⟨?_, ?_⟩, ⟨?_, ?_⟩, ⟨?_, ?_⟩, ⟨?_, ?_⟩, ⟨?_, ?_⟩, ⟨?_, ?_⟩, ⟨?_, ?_⟩, ⟨?_, ?_⟩, ⟨?_, ?_⟩, fun _ h => by cases h⟩ <;> decide +kernel
  obtain ⟨s, hs, rfl⟩ := List.mem_map.mp hd
  rw [due_ne (e5 s hs).1]
  exact pl_told (e5 s hs).2
/-! the texts -/
theorem bad_empty : BadT (Str.ofString "") [Str.empty] := ⟨⟨TL.ext_tl (by rw [TL.join_eq, TL.tl_join, TL.tl_ofString]; rfl), by simp, fun p hp => by rw [List.mem_singleton.mp hp, ← emp]; exact glw "", by rw [lnS (k := 0) rfl]; omega⟩, .inl rfl⟩
theorem bad_nl : BadT (Str.ofString "\n") [Str.empty, Str.empty] := by
  refine ⟨⟨TL.ext_tl (by rw [TL.join_eq, TL.tl_join, TL.tl_ofString]; rfl), by simp, fun p hp => ?_, by rw [lnS (k := 1) rfl]; omega⟩, .inr ⟨by simp, Str.empty, rfl, ?_, ?_, ?_⟩⟩
  · simp only [List.mem_cons, List.not_mem_nil, or_false, or_self] at hp
    rw [hp, ← emp]; exact glw ""
  all_goals rw [← emp]; decide +kernel
theorem bad_end : BadT (Str.ofString "end\n") [Str.ofString "end", Str.empty] := by
  refine ⟨⟨TL.ext_tl (by rw [TL.join_eq, TL.tl_join, TL.tl_ofString, TL.tl_ofString, List.map_cons, List.map_cons, TL.tl_ofString]; rfl), by simp, fun p hp => ?_, by rw [lnS (k := 4) rfl]; omega⟩, .inr ⟨by simp, Str.ofString "end", rfl, ?_, ?_, ?_⟩⟩
  · simp only [List.mem_cons, List.not_mem_nil, or_false] at hp
    rcases hp with rfl | rfl
    · exact glw _
    · rw [← emp]; exact glw ""
  all_goals decide +kernel
theorem tl_x : TL.tl (Txt.mul (Str.ofString "x") 4000) = List.replicate 4000 120 := by
  have e : Str.ofString "x" = ⟨#[120]⟩ := TL.ext_tl (by rw [TL.tl_ofString]; rfl)
  rw [e]
  exact mul_one_list 120 4000
theorem bad_x : BadT (Txt.mul (Str.ofString "x") 4000) [Txt.mul (Str.ofString "x") 4000] := by
  refine ⟨⟨TL.ext_tl ?_, by simp, fun p hp c hc => ?_, ?_⟩, .inl rfl⟩
  · rw [TL.join_eq, TL.tl_join]; rfl
  · rw [List.mem_singleton.mp hp, tl_x] at hc
    rw [(List.mem_replicate.mp hc).2]; omega
  · rw [TL.len_tl, tl_x, List.length_replicate]; omega
theorem mul_x : MulOk (Str.ofString "x") 4000 := by
  refine ⟨rfl, fun _ _ => ?_, fun _ _ => ?_⟩ <;> rw [lnS (k := 1) rfl]
  · decide
  · rfl
end N87

set_option Elab.async false
set_option linter.all false
set_option maxRecDepth 100000
set_option maxHeartbeats 4000000
namespace N87
open PySem PySem.Spec PyProof.Rows L2 RW

theorem szd {n : Nat} (h : n ≤ 1000) : n ≤ sizeLine := size_1000 h
theorem ev_big {K : PySem.W.Frag} {env : Env1} {S : List Dat} : Ev K (tOp (rI CPowW fun i j => V.int (i ^ j.toNat)) (tC (.int 10)) (tC (.int 60))) env S (.d (.int (10 ^ (60 : Int).toNat))) S := ev_op ev_int ev_int (o_powW ⟨by decide, by decide⟩)
theorem ev_nine {K : PySem.W.Frag} {env : Env1} {S : List Dat} : Ev K (tOp (RwT.rRepA K) (tTup (tCons (tC (.int 0)) tNil)) (tC (.int 9))) env S (.d (.tup (List.replicate (9 : Int).toNat [i0]).flatten)) S := ev_op (ev_tup (ds := [i0]) (ea_cons ev_int ea_nil) (szd (Nat.le_of_ble_eq_true rfl))) ev_int (o_repA (by simp) (by decide) (by decide) (Nat.le_of_ble_eq_true rfl))
def endF (v : Vt) : Vt := (drawF (drawF (drawF (drawF v 11).2 9).2 7).2 8).2
theorem told_rest (B : Hp) {K : PySem.W.Frag} {mg : Str → Option Value} (T : Txt K mg) : ∀ v, Rep K B v (.int 0) → RS T T.a_ParseError (some ("spot", v)) (.t (toldV lines0)) := fun v hv => by
  cases hv; exact .pe
section
variable {P : Program} {w : World} {K : PySem.W.Frag} {mg : Str → Option Value} {base : Heap}
def gRight (T : Txt K mg) (ss : List Sl) (S : List Dat) (r : Dat) (S' : List Dat) : Prop := ∃ (k : Nat) (v : Vt), ss = [.c k] ∧ S[k]? = some (vatD v) ∧ AllTabs (tabs T) S ∧ r = .bl true ∧ S' = S.set k (vatD (endF v))
def gLaw (T : Txt K mg) (ss : List Sl) (S : List Dat) (r : Dat) (S' : List Dat) : Prop := ∃ (ns : List Int), ss = [.d (.scr ns)] ∧ ns.length ≤ 63 ∧ AllTabs (tabs T) S ∧ r = .bl true ∧ S' = S
theorem mrd (T : Txt K mg) {f : Addr} {i : Nat} (h : [T.a_read_lot, T.a_read_reading, T.a_read_network][i]? = some f) : Mrd T f = some (SpR K (gRead T.a_InvalidText T.a_ParseError)) := by
  unfold Mrd
  refine if_pos ?_
  have := List.mem_of_getElem? h
  simpa using this
end
section
variable {P : Program} {w : World} {K : PySem.W.Frag} {mg : Str → Option Value} {base : Heap}

theorem ok__law_right (T : Txt K mg) (TB : LamX.TabB base mg T.c__law_right T.P__law_right) : FnOk P w K mg base CX0 8 T.a__law_right T.d__law_right ["pack"] (SpD K (gRight T)) := by
  have G__law_one_of := ok__law_one_of (P := P) (w := w) (base := base) T
  have b__law_one_of := T.b__law_one_of
  have G_lot_text := ok_lot_text (P := P) (w := w) (base := base) T
  have b_lot_text := T.b_lot_text
  have G_reading_text := ok_reading_text (P := P) (w := w) (base := base) T
  have b_reading_text := T.b_reading_text
  have G_network_text := ok_network_text (P := P) (w := w) (base := base) T
  have b_network_text := T.b_network_text
  have G__law_due := ok__law_due (P := P) (w := w) (base := base) T
  have b__law_due := T.b__law_due
  have HM := held (P := P) (w := w) (base := base) T
  obtain ⟨oc0, od0, kV0, doc0, pm0, an0, ct0, osl0, ed0, lk0, hc0⟩ := T.lk__law_right
  rw [ed0] at lk0 ⊢
  refine fn_of lk0 hc0 sc__law_right (spd_len (k := 1) fun ss S r S' hg => ?_) (fun A outer s H vs Q E hr h => ?_)
  · obtain ⟨k, v, rfl, _⟩ := hg; rfl
  · have hcode : (cxOf CX0 P w K mg base ["pack", "bad", "none", "odd", "shown", "told", "read"] "_law_right" (defScope s__law_right) T.a__law_right (.ref T.c__law_right) A outer s H E).nox.env.code = .ref T.c__law_right := rfl
    refine ⟨_, PSs.nox (pss_cons (ps_set (i := 1) sc__law_right.nd rfl (by first | exact Or.inl rfl | exact Or.inr rfl) (pe_call G__law_one_of (hr.mono (by decide)) rfl T.m__law_one_of T.k__law_one_of b__law_one_of .nil pass0 (pa_cons (pv 0) (pa_cons (pe_lst (pa_cons pe_non (pa_cons pe_int (pa_cons (pe_tup pa_nil) (pa_cons pe_str (pa_cons (pe_tup (pa_cons (pe_tup (pa_cons pe_int (pa_cons pe_int pa_nil))) (pa_cons (pe_tup (pa_cons pe_int (pa_cons pe_int pa_nil))) pa_nil))) (pa_cons (pe_tup (pa_cons (pe_tup (pa_cons pe_int (pa_cons pe_int pa_nil))) (pa_cons (pe_tup (pa_cons pe_int pa_nil)) pa_nil))) (pa_cons (pe_lst (pa_cons (pe_tup (pa_cons pe_int (pa_cons pe_int pa_nil))) pa_nil)) (pa_cons (pe_tup (pa_cons (pe_tup (pa_cons pe_int (pa_cons pe_bl pa_nil))) pa_nil)) (pa_cons (pe_tup (pa_cons (pe_tup (pa_cons (pe_op op_powW pe_int pe_int) pa_nil)) pa_nil)) (pa_cons pe_dnewT (pa_cons (pe_tup (pa_cons (pe_op RwT.op_repA (pe_tup (pa_cons pe_int pa_nil)) pe_int) pa_nil)) pa_nil)))))))))))) pa_nil)))) (pss_cons (ps_set (i := 2) sc__law_right.nd rfl (by first | exact Or.inl rfl | exact Or.inr rfl) (pe_call G__law_one_of (hr.mono (by decide)) rfl T.m__law_one_of T.k__law_one_of b__law_one_of .nil pass0 (pa_cons (pv 0) (pa_cons (pe_lst (pa_cons pe_non (pa_cons pe_int (pa_cons (pe_tup pa_nil) (pa_cons pe_str (pa_cons (pe_tup (pa_cons (pe_tup (pa_cons (pe_tup (pa_cons pe_int (pa_cons pe_int pa_nil))) pa_nil)) pa_nil)) (pa_cons (pe_tup (pa_cons (pv 1) (pa_cons (pe_tup (pa_cons (pe_tup (pa_cons pe_int (pa_cons pe_int pa_nil))) pa_nil)) pa_nil))) (pa_cons (pe_tup (pa_cons (pe_tup (pa_cons (pe_tup (pa_cons pe_int (pa_cons pe_int pa_nil))) pa_nil)) (pa_cons (pv 1) pa_nil))) (pa_cons (pe_tup (pa_cons (pe_tup (pa_cons (pe_tup (pa_cons pe_int pa_nil)) pa_nil)) (pa_cons (pe_tup (pa_cons (pe_tup (pa_cons pe_int (pa_cons pe_int pa_nil))) pa_nil)) pa_nil))) (pa_cons pe_dnewT pa_nil)))))))))) pa_nil)))) (pss_cons (ps_set (i := 3) sc__law_right.nd rfl (by first | exact Or.inl rfl | exact Or.inr rfl) (pe_call G__law_one_of (hr.mono (by decide)) rfl T.m__law_one_of T.k__law_one_of b__law_one_of .nil pass0 (pa_cons (pv 0) (pa_cons (pe_lst (pa_cons pe_non (pa_cons pe_int (pa_cons (pe_tup pa_nil) (pa_cons pe_str (pa_cons (pe_tup (pa_cons pe_int (pa_cons (pe_tup pa_nil) (pa_cons (pe_tup (pa_cons pe_int (pa_cons pe_int pa_nil))) pa_nil)))) (pa_cons pe_dnewT (pa_cons (pe_lst (pa_cons pe_int pa_nil)) pa_nil)))))))) pa_nil)))) (pss_cons (ps_set (i := 4) sc__law_right.nd rfl (by first | exact Or.inl rfl | exact Or.inr rfl) (pe_call G__law_one_of (hr.mono (by decide)) rfl T.m__law_one_of T.k__law_one_of b__law_one_of .nil pass0 (pa_cons (pv 0) (pa_cons (pe_lst (pa_cons pe_non (pa_cons pe_int (pa_cons (pe_tup (pa_cons pe_str pa_nil)) (pa_cons (pe_lst (pa_cons pe_str pa_nil)) (pa_cons pe_bl (pa_cons (pe_tup pa_nil) (pa_cons pe_dnewT (pa_cons (pe_tup (pa_cons (pe_tup (pa_cons pe_int (pa_cons pe_int pa_nil))) pa_nil)) pa_nil))))))))) pa_nil)))) (pss_cons (ps_set (i := 5) sc__law_right.nd rfl (by first | exact Or.inl rfl | exact Or.inr rfl) (pe_lst (pa_cons (lam__law_word (T := T) (k := 5) (tm1 T) (tu1 T) TB hcode (hr.mono (by decide)) rfl (LamX.lamS_by (sc := defScope s__law_right) (by decide +kernel)) rfl (fun _ _ _ _ _ => rfl) (fun A2 outer2 s2 H2 E2 f2 c2 hr2 => (pe_call G_lot_text (hr2.mono (by decide)) rfl T.m_lot_text T.k_lot_text b_lot_text .nil (passR (takes_of rfl rfl rfl rfl)) (pa_cons (pv 1) pa_nil)))) pa_nil))) (pss_cons (ps_expr (pe_bm PySem.F.plainAttrs_list PySem.F.slot_list_append PySem.F.type_list_append mt_append (pv 5) (pa_cons (lam__law_word (T := T) (k := 5) (tm1 T) (tu1 T) TB hcode (hr.mono (by decide)) rfl (LamX.lamS_by (sc := defScope s__law_right) (by decide +kernel)) rfl (fun _ _ _ _ _ => rfl) (fun A2 outer2 s2 H2 E2 f2 c2 hr2 => (pe_call G_reading_text (hr2.mono (by decide)) rfl T.m_reading_text T.k_reading_text b_reading_text .nil (passR (takes_of rfl rfl rfl rfl)) (pa_cons (pv 2) pa_nil)))) pa_nil))) (pss_cons (ps_expr (pe_bm PySem.F.plainAttrs_list PySem.F.slot_list_append PySem.F.type_list_append mt_append (pv 5) (pa_cons (lam__law_word (T := T) (k := 5) (tm1 T) (tu1 T) TB hcode (hr.mono (by decide)) rfl (LamX.lamS_by (sc := defScope s__law_right) (by decide +kernel)) rfl (fun _ _ _ _ _ => rfl) (fun A2 outer2 s2 H2 E2 f2 c2 hr2 => (pe_call G_network_text (hr2.mono (by decide)) rfl T.m_network_text T.k_network_text b_network_text .nil (passR (takes_of rfl rfl rfl rfl)) (pa_cons (pv 3) pa_nil)))) pa_nil))) (pss_cons (ps_for PassesOwn.never rfl (pi_seqK K (pe_tup (pa_cons (pe_glob (v := .ref T.a_read_lot) rfl T.m_read_lot rfl) (pa_cons (pe_glob (v := .ref T.a_read_reading) rfl T.m_read_reading rfl) (pa_cons (pe_glob (v := .ref T.a_read_network) rfl T.m_read_network rfl) pa_nil))))) (pg_name (i := 6) sc__law_right.nd rfl (by first | exact Or.inl rfl | exact Or.inr rfl)) (pss_cons (ps_expr (pe_bm PySem.F.plainAttrs_list PySem.F.slot_list_append PySem.F.type_list_append mt_append (pv 5) (pa_cons (lam__law_word (T := T) (k := 5) (tm1 T) (tu1 T) TB hcode (hr.mono (by decide)) rfl (LamX.lamS_by (sc := defScope s__law_right) (by decide +kernel)) rfl (fun _ _ _ _ _ => rfl) (fun A2 outer2 s2 H2 E2 f2 c2 hr2 => (pe_callLX (i := 6) HM (hr2.mono (by decide)) (passR (takes_of rfl rfl rfl rfl)) (pa_cons (pv 4) pa_nil)))) pa_nil))) (pss_cons (ps_expr (pe_bm PySem.F.plainAttrs_list PySem.F.slot_list_append PySem.F.type_list_append mt_append (pv 5) (pa_cons (lam__law_word (T := T) (k := 5) (tm1 T) (tu1 T) TB hcode (hr.mono (by decide)) rfl (LamX.lamS_by (sc := defScope s__law_right) (by decide +kernel)) rfl (fun _ _ _ _ _ => rfl) (fun A2 outer2 s2 H2 E2 f2 c2 hr2 => (pe_callLX (i := 6) HM (hr2.mono (by decide)) (passR (takes_of rfl rfl rfl rfl)) (pa_cons pe_str pa_nil)))) pa_nil))) (pss_one (ps_expr (pe_bm PySem.F.plainAttrs_list PySem.F.slot_list_append PySem.F.type_list_append mt_append (pv 5) (pa_cons (lam__law_word (T := T) (k := 5) (tm1 T) (tu1 T) TB hcode (hr.mono (by decide)) rfl (LamX.lamS_by (sc := defScope s__law_right) (by decide +kernel)) rfl (fun _ _ _ _ _ => rfl) (fun A2 outer2 s2 H2 E2 f2 c2 hr2 => (pe_callLX (i := 6) HM (hr2.mono (by decide)) (passR (takes_of rfl rfl rfl rfl)) (pa_cons pe_str pa_nil)))) pa_nil))))))) (pss_one (ps_ret (pe_cmpR (op_eqDK K hr.units) (pv 5) (pe_call G__law_due (hr.mono (by decide)) rfl T.m__law_due T.k__law_due b__law_due .nil pass0 (pa_cons (pe_op op_cat (pe_lst (pa_cons pe_str (pa_cons pe_str (pa_cons pe_str pa_nil)))) (pe_op op_rep (pe_lst (pa_cons pe_str (pa_cons pe_str (pa_cons pe_str pa_nil)))) pe_int)) pa_nil)) (nomark _)))))))))))), sp_body h fun ss S r S' hg => ?_⟩
    obtain ⟨k, v, rfl, hk, hT, rfl, rfl⟩ := hg
    refine sp_set (x := .d (pickF v BADS)) (S1 := S.set k (vatD (drawF v 11).2)) (ev_call (ea_cons (ev_var rfl) (ea_cons (EvN.ev (en_lst (ds := BADS) ?_ (szd (Nat.le_of_ble_eq_true rfl)))) ea_nil)) ⟨k, v, BADS, rfl, hk, by simp [BADS], Nat.le_of_ble_eq_true rfl, rfl, rfl⟩) ?_
    · show EvA K _ _ S [.d .non, .d i0, _, _, _, _, _, _, _, _, _] S
      repeat (first | exact ea_nil | apply ea_cons | exact ev_non | exact ev_int | exact ev_str | exact ev_bl | exact ev_dd | exact ev_var rfl | exact ev_tup (ds := []) ea_nil (Nat.zero_le _) | apply ev_tup | (apply EvN.ev; apply en_lst) | exact szd (Nat.le_of_ble_eq_true rfl))
      exact ev_big
      repeat (first | exact ea_nil | apply ea_cons | exact ev_non | exact ev_int | exact ev_str | exact ev_bl | exact ev_dd | exact ev_var rfl | exact ev_tup (ds := []) ea_nil (Nat.zero_le _) | apply ev_tup | (apply EvN.ev; apply en_lst) | exact szd (Nat.le_of_ble_eq_true rfl))
      exact ev_nine
      repeat (first | exact ea_nil | apply ea_cons | exact ev_non | exact ev_int | exact ev_str | exact ev_bl | exact ev_dd | exact ev_var rfl | exact ev_tup (ds := []) ea_nil (Nat.zero_le _) | apply ev_tup | (apply EvN.ev; apply en_lst) | exact szd (Nat.le_of_ble_eq_true rfl))
    have hb := pick_in v (ds := BADS) (by simp [BADS])
    have hb1 := bads_kd _ hb
    have hb2 := bads_no _ hb
    generalize pickF v BADS = bad at hb1 hb2 ⊢
    have hk1 := set_get (e := vatD (drawF v 11).2) hk
    refine sp_set (x := .d (pickF (drawF v 11).2 (NONES bad))) (S1 := S.set k (vatD (drawF (drawF v 11).2 9).2)) ((ev_call (ea_cons (ev_var rfl) (ea_cons (EvN.ev (en_lst (ds := NONES bad) ?_ (szd (Nat.le_of_ble_eq_true rfl)))) ea_nil)) ⟨k, (drawF v 11).2, NONES bad, rfl, hk1, by simp [NONES], Nat.le_of_ble_eq_true rfl, rfl, rfl⟩).toS (by rw [List.set_set]; rfl)) ?_
    · show EvA K _ _ _ [.d .non, .d i0, _, _, _, _, _, _, _] _
      repeat (first | exact ea_nil | apply ea_cons | exact ev_non | exact ev_int | exact ev_str | exact ev_bl | exact ev_dd | exact ev_var rfl | exact ev_tup (ds := []) ea_nil (Nat.zero_le _) | apply ev_tup | (apply EvN.ev; apply en_lst) | exact szd (Nat.le_of_ble_eq_true rfl))
    have hn := pick_in (drawF v 11).2 (ds := NONES bad) (by simp [NONES])
    have hn1 := nones_kd hb1 _ hn
    have hn2 := nones_no hb2 _ hn
    generalize pickF (drawF v 11).2 (NONES bad) = none at hn1 hn2 ⊢
    have hk2 := set_get (e := vatD (drawF (drawF v 11).2 9).2) hk
    refine sp_set (x := .d (pickF (drawF (drawF v 11).2 9).2 ODDS)) (S1 := S.set k (vatD (drawF (drawF (drawF v 11).2 9).2 7).2)) ((ev_call (ea_cons (ev_var rfl) (ea_cons (EvN.ev (en_lst (ds := ODDS) ?_ (szd (Nat.le_of_ble_eq_true rfl)))) ea_nil)) ⟨k, (drawF (drawF v 11).2 9).2, ODDS, rfl, hk2, by simp [ODDS], Nat.le_of_ble_eq_true rfl, rfl, rfl⟩).toS (by rw [List.set_set]; rfl)) ?_
    · show EvA K _ _ _ [.d .non, .d i0, _, _, _, _, _] _
      repeat (first | exact ea_nil | apply ea_cons | exact ev_non | exact ev_int | exact ev_str | exact ev_bl | exact ev_dd | exact ev_var rfl | exact ev_tup (ds := []) ea_nil (Nat.zero_le _) | apply ev_tup | (apply EvN.ev; apply en_lst) | exact szd (Nat.le_of_ble_eq_true rfl))
    have ho := pick_in (drawF (drawF v 11).2 9).2 (ds := ODDS) (by simp [ODDS])
    have ho1 := odds_kd _ ho
    generalize pickF (drawF (drawF v 11).2 9).2 ODDS = odd at ho1 ⊢
    have hk3 := set_get (e := vatD (drawF (drawF (drawF v 11).2 9).2 7).2) hk
    refine sp_set (x := .d (pickF (drawF (drawF (drawF v 11).2 9).2 7).2 SHOWN)) (S1 := S.set k (vatD (endF v))) ((ev_call (ea_cons (ev_var rfl) (ea_cons (EvN.ev (en_lst (ds := SHOWN) ?_ (szd (Nat.le_of_ble_eq_true rfl)))) ea_nil)) ⟨k, (drawF (drawF (drawF v 11).2 9).2 7).2, SHOWN, rfl, hk3, by simp [SHOWN], Nat.le_of_ble_eq_true rfl, rfl, rfl⟩).toS (by rw [List.set_set]; rfl)) ?_
    · show EvA K _ _ _ [.d .non, .d (.int 5), _, _, _, _, _, _] _
      repeat (first | exact ea_nil | apply ea_cons | exact ev_non | exact ev_int | exact ev_str | exact ev_bl | exact ev_dd | exact ev_var rfl | exact ev_tup (ds := []) ea_nil (Nat.zero_le _) | apply ev_tup | (apply EvN.ev; apply en_lst) | exact szd (Nat.le_of_ble_eq_true rfl))
    have hs := pick_in (drawF (drawF (drawF v 11).2 9).2 7).2 (ds := SHOWN) (by simp [SHOWN])
    have hs1 := shown_kd _ hs
    have hs2 := shown_no _ hs
    generalize pickF (drawF (drawF (drawF v 11).2 9).2 7).2 SHOWN = shown at hs1 hs2 ⊢
    have hT4 : AllTabs (tabs T) (S.set k (vatD (endF v))) := at_setl hT hk
    have hlen : (S.set k (vatD (endF v))).length = S.length := List.length_set ..
    generalize S.set k (vatD (endF v)) = S4 at hT4 hlen ⊢
    refine sp_setC (ds := [toldD (Str.ofString "lot")]) (en_lst (ea_cons (ev_metX (met_ok T) hT4 (fun E => ev_callX (ea_cons (ev_var rfl) ea_nil) (.inl ⟨bad, rfl, hb1, hb2, rfl, rfl⟩)) (rep_told K _) (fun B => (RS.lot : RS T _ _ _))) ea_nil) (szd (Nat.le_of_ble_eq_true rfl))) ?_
    refine sp_drop ((ev_append (ds := [toldD (Str.ofString "lot")]) (ev_var rfl) (ev_metX (d := toldD (Str.ofString "reading")) (met_ok T) (at_app hT4) (fun E => ev_callX (ea_cons (ev_var rfl) ea_nil) ⟨none, rfl, hn1, hn2, rfl, rfl⟩) (rep_told K _) (fun B => (RS.rd : RS T _ _ _))) ⟨_, get_app⟩ get_app (Nat.lt_of_lt_of_le (by show 1 < 2; decide) (szd (Nat.le_of_ble_eq_true rfl)))).toS set_app) ?_
    refine sp_drop ((ev_append (ds := [toldD (Str.ofString "lot")] ++ [toldD (Str.ofString "reading")]) (ev_var rfl) (ev_metX (d := toldD (Str.ofString "network")) (met_ok T) (at_app hT4) (fun E => ev_callX (ea_cons (ev_var rfl) ea_nil) ⟨odd, rfl, ho1, rfl, rfl⟩) (rep_told K _) (fun B => (RS.net : RS T _ _ _))) ⟨_, get_app⟩ get_app (Nat.lt_of_lt_of_le (by show 2 < 3; decide) (szd (Nat.le_of_ble_eq_true rfl)))).toS set_app) ?_
    refine sp_seq (P' := { nx := fun env' S2 => S2 = S4 ++ [.lst (toldL 3)] ∧ ∃ o, env' = [some (.c k), some (.d bad), some (.d none), some (.d odd), some (.d shown), some (.c S4.length), o] })
      (sp_forA (xs := [T.a_read_lot, T.a_read_reading, T.a_read_network]) (g := Dat.adr) (it_tup (ev_tup (ds := [.adr T.a_read_lot, .adr T.a_read_reading, .adr T.a_read_network]) (ea_cons ev_adr (ea_cons ev_adr (ea_cons ev_adr ea_nil))) (szd (Nat.le_of_ble_eq_true rfl)))) (fun i env' S2 => S2 = S4 ++ [.lst (toldL i)] ∧ ∃ o, env' = [some (.c k), some (.d bad), some (.d none), some (.d odd), some (.d shown), some (.c S4.length), o]) ⟨rfl, _, rfl⟩ (fun _ _ _ _ _ _ _ _ _ => trivial) ?_ ?_) ?_
    · rintro i a env' S2 ha ⟨rfl, o, rfl⟩
      refine ⟨[6], fun env => env.set 6 (some (.d (.adr a))), tg_name, ?_⟩
      have hi : i < 3 := (List.getElem?_eq_some_iff.mp ha).1
      have hl := told_len i
      have hM := mrd T ha
      have hz : ∀ n : Nat, n ≤ 100 → n < sizeLine := fun n h => Nat.lt_of_le_of_lt h (by decide)
      refine sp_drop ((ev_append (ds := toldL i) (ev_var rfl) (ev_metX (d := toldD (Str.ofString "text")) (met_ok T) (at_app hT4) (fun E => ev_callLX rfl hM (ea_cons (ev_var rfl) ea_nil) (.inl ⟨shown, rfl, hs1, hs2, rfl, rfl⟩)) (rep_told K _) (fun B => (RS.txt : RS T _ _ _))) ⟨_, get_app⟩ get_app (hz _ (by omega))).toS set_app) ?_
      refine sp_drop ((ev_append (ds := toldL i ++ [toldD (Str.ofString "text")]) (ev_var rfl) (ev_metX (d := toldD lines0) (met_ok T) (at_app hT4) (fun E => ev_callLX rfl hM (ea_cons ev_str ea_nil) (.inr ⟨_, _, rfl, bad_empty, rfl, rfl⟩)) (rep_told K _) (fun B => told_rest B T)) ⟨_, get_app⟩ get_app (hz _ (by rw [List.length_append]; simp; omega))).toS set_app) ?_
      refine sp_drop1 ((ev_append (ds := (toldL i ++ [toldD (Str.ofString "text")]) ++ [toldD lines0]) (ev_var rfl) (ev_metX (d := toldD lines0) (met_ok T) (at_app hT4) (fun E => ev_callLX rfl hM (ea_cons ev_str ea_nil) (.inr ⟨_, _, rfl, bad_end, rfl, rfl⟩)) (rep_told K _) (fun B => told_rest B T)) ⟨_, get_app⟩ get_app (hz _ (by rw [List.length_append, List.length_append]; simp; omega))).toS set_app) ⟨by rw [told_next], _, rfl⟩
    · rintro env' S2 ⟨rfl, o, rfl⟩
      exact ⟨rfl, o, rfl⟩
    · rintro env' S2 ⟨rfl, o, rfl⟩
      refine sp_ret (d := .bl true) (S1 := S4 ++ [.lst (toldL 3)]) ((ev_op (ev_var rfl) (ev_call (d := .lst (words.map dueD)) (ea_cons (EvN.ev (ds := words.map Dat.str) (en_cat (EvN.ev (en_lst (ds := [.str (Str.ofString "lot"), .str (Str.ofString "reading"), .str (Str.ofString "network")]) (ea_cons ev_str (ea_cons ev_str (ea_cons ev_str ea_nil))) (szd (Nat.le_of_ble_eq_true rfl)))) (EvN.ev (en_rep (k := 3) (EvN.ev (en_lst (ds := [.str (Str.ofString "text"), .str (Str.ofString "line 0"), .str (Str.ofString "line 0")]) (ea_cons ev_str (ea_cons ev_str (ea_cons ev_str ea_nil))) (szd (Nat.le_of_ble_eq_true rfl)))) ev_int .lst (by decide) (szd (Nat.le_of_ble_eq_true rfl)))) .lst .lst (szd (Nat.le_of_ble_eq_true rfl)))) ea_nil) ⟨words, rfl, Nat.le_of_ble_eq_true rfl, rfl, rfl⟩) (op2_eqD (plS_c pl_words get_app) (plS_d (by rw [due_words]; exact pl_words)) (by decide) (by decide))).to ?_) ⟨rfl, ?_⟩
      · rw [due_words, eqD_refl pl_words]
      · rw [← hlen]; exact take_app
end
end N87

set_option Elab.async false
set_option linter.all false
set_option maxRecDepth 100000
set_option maxHeartbeats 4000000
namespace N87
open PySem PySem.Spec PyProof.Rows L2 RW

theorem take2 {S X : List Dat} : (S ++ X).take S.length = S := List.take_left ..
def words2 : List Str := [Str.ofString "line 0", Str.ofString "line 0", fineS]
def told2 : List Dat := [toldD lines0, toldD lines0, fineD]
theorem due_words2 : words2.map dueD = told2 := by
  have e5 : dueD (Str.ofString "line 0") = toldD (Str.ofString "line 0") := due_ne (by decide +kernel)
  have e6 : dueD fineS = fineD := if_pos rfl
  unfold words2 told2
  rw [lines0_eq]
  simp only [List.map_cons, List.map_nil, e5, e6]
theorem pl_words2 : Pl 2 (.lst told2) := .lst fun d hd => by
  unfold told2 at hd
  rw [lines0_eq] at hd
  simp only [List.mem_cons, List.not_mem_nil, or_false] at hd
  rcases hd with rfl | rfl | rfl
  · exact pl_told (by decide +kernel)
  · exact pl_told (by decide +kernel)
  · exact .tup fun d hd => by
      rw [List.mem_singleton.mp hd]
      exact .str (by decide +kernel)
section
variable {P : Program} {w : World} {K : PySem.W.Frag} {mg : Str → Option Value} {base : Heap}

theorem ok_law (T : Txt K mg) (TB : LamX.TabB base mg T.c_law T.P_law) (TB__law_right : LamX.TabB base mg T.c__law_right T.P__law_right) : FnOk P w K mg base CX0 9 T.a_law T.d_law ["script"] (SpD K (gLaw T)) := by
  have G__law_pack := ok__law_pack (P := P) (w := w) (base := base) T
  have b__law_pack := T.b__law_pack
  have G__law_right := ok__law_right (P := P) (w := w) (base := base) T TB__law_right
  have b__law_right := T.b__law_right
  have G_read_lot := ok_read_lot (P := P) (w := w) (base := base) T
  have b_read_lot := T.b_read_lot
  have G_read_network := ok_read_network (P := P) (w := w) (base := base) T
  have b_read_network := T.b_read_network
  have G_lot_text := ok_lot_text (P := P) (w := w) (base := base) T
  have b_lot_text := T.b_lot_text
  have G__law_due := ok__law_due (P := P) (w := w) (base := base) T
  have b__law_due := T.b__law_due
  obtain ⟨oc0, od0, kV0, doc0, pm0, an0, ct0, osl0, ed0, lk0, hc0⟩ := T.lk_law
  rw [ed0] at lk0 ⊢
  refine fn_of lk0 hc0 sc_law (spd_len (k := 1) fun ss S r S' hg => ?_) (fun A outer s H vs Q E hr h => ?_)
  · obtain ⟨i, rfl, _⟩ := hg; rfl
  · have hcode : (cxOf CX0 P w K mg base ["script", "spot", "pack", "told"] "law" (defScope s_law) T.a_law (.ref T.c_law) A outer s H E).nox.env.code = .ref T.c_law := rfl
    refine ⟨_, PSs.nox (pss_cons (ps_for PassesOwn.never rfl (pi_range1 (by rfl) T.n_range (pa_cons (pe_callB (call_max2D rfl) (by rfl) T.n_max (by decide +kernel) (pa_cons pe_int (pa_cons (pe_callB (call_min2D rfl) (by rfl) T.n_min (by decide +kernel) (pa_cons pe_int (pa_cons (pe_callB (call_lenK K) (by rfl) T.n_len (by decide +kernel) (pa_cons (pv 0) pa_nil)) pa_nil))) pa_nil))) pa_nil)) (pg_name (i := 1) sc_law.nd rfl (by first | exact Or.inl rfl | exact Or.inr rfl)) (pss_cons (ps_set (i := 2) sc_law.nd rfl (by first | exact Or.inl rfl | exact Or.inr rfl) (pe_call G__law_pack (hr.mono (by decide)) rfl T.m__law_pack T.k__law_pack b__law_pack .nil pass0 (pa_cons (pv 0) (pa_cons (pv 1) pa_nil)))) (pss_one (ps_if (PW.pt (pw_or (pt_not (pt_truK K (pe_call G__law_right (hr.mono (by decide)) rfl T.m__law_right T.k__law_right b__law_right .nil pass0 (pa_cons (pv 2) pa_nil)))) (pw_or1 (pt_not (pt_truK K (pe_call G__law_right (hr.mono (by decide)) rfl T.m__law_right T.k__law_right b__law_right .nil pass0 (pa_cons (pv 2) pa_nil))))))) (pss_one (ps_ret pe_bl)) pss_nil)))) (pss_cons (ps_set (i := 3) sc_law.nd rfl (by first | exact Or.inl rfl | exact Or.inr rfl) (pe_lst (pa_cons (lam__law_word (T := T) (k := 5) (tm0 T) (tu0 T) TB hcode (hr.mono (by decide)) rfl (LamX.lamS_by (sc := defScope s_law) (by decide +kernel)) rfl (fun _ _ _ _ _ => rfl) (fun A2 outer2 s2 H2 E2 f2 c2 hr2 => (pe_call G_read_lot (hr2.mono (by decide)) rfl T.m_read_lot T.k_read_lot b_read_lot .nil (passR (takes_of rfl rfl rfl rfl)) (pa_cons (pe_op op_mulS pe_str pe_int) pa_nil)))) pa_nil))) (pss_cons (ps_expr (pe_bm PySem.F.plainAttrs_list PySem.F.slot_list_append PySem.F.type_list_append mt_append (pv 3) (pa_cons (lam__law_word (T := T) (k := 5) (tm0 T) (tu0 T) TB hcode (hr.mono (by decide)) rfl (LamX.lamS_by (sc := defScope s_law) (by decide +kernel)) rfl (fun _ _ _ _ _ => rfl) (fun A2 outer2 s2 H2 E2 f2 c2 hr2 => (pe_call G_read_network (hr2.mono (by decide)) rfl T.m_read_network T.k_read_network b_read_network .nil (passR (takes_of rfl rfl rfl rfl)) (pa_cons pe_str pa_nil)))) pa_nil))) (pss_cons (ps_expr (pe_bm PySem.F.plainAttrs_list PySem.F.slot_list_append PySem.F.type_list_append mt_append (pv 3) (pa_cons (lam__law_word (T := T) (k := 5) (tm0 T) (tu0 T) TB hcode (hr.mono (by decide)) rfl (LamX.lamS_by (sc := defScope s_law) (by decide +kernel)) rfl (fun _ _ _ _ _ => rfl) (fun A2 outer2 s2 H2 E2 f2 c2 hr2 => (pe_call G_lot_text (hr2.mono (by decide)) rfl T.m_lot_text T.k_lot_text b_lot_text .nil (passR (takes_of rfl rfl rfl rfl)) (pa_cons (pe_tup (pa_cons (pe_tup (pa_cons pe_int pa_nil)) pa_nil)) pa_nil)))) pa_nil))) (pss_one (ps_ret (pe_cmpR (op_eqDK K hr.units) (pv 3) (pe_call G__law_due (hr.mono (by decide)) rfl T.m__law_due T.k__law_due b__law_due .nil pass0 (pa_cons (pe_lst (pa_cons pe_str (pa_cons pe_str (pa_cons pe_str pa_nil)))) pa_nil)) (nomark _)))))))), sp_body h fun ss S r S' hg => ?_⟩
    obtain ⟨ns, rfl, hns, hT, rfl, rfl⟩ := hg
    obtain ⟨c, hc⟩ : ∃ c : Nat, max 1 (min 4 (ns.length : Int)) = (c : Int) := ⟨(max 1 (min 4 (ns.length : Int))).toNat, by omega⟩
    have hc4 : c ≤ 4 := by omega
    refine sp_seq (P' := { nx := fun env' S2 => (∃ X, S2 = S' ++ X) ∧ AllTabs (tabs T) S2 ∧ ∃ o1 o2, env' = [some (.d (.scr ns)), o1, o2, none] })
      (sp_forA (xs := List.range c) (g := fun i => Dat.int (0 + (i : Nat))) (it_rangeN (m := c) (ea_cons ((ev_cb (ea_cons ev_int (ea_cons (ev_cb (ea_cons ev_int (ea_cons (ev_cb (ea_cons (ev_var rfl) ea_nil) cd_lenS) ea_nil)) cd_min2) ea_nil)) cd_max2).to (by rw [hc])) ea_nil) (by omega)) (fun i env' S2 => (∃ X, S2 = S' ++ X) ∧ AllTabs (tabs T) S2 ∧ ∃ o1 o2, env' = [some (.d (.scr ns)), o1, o2, none]) ⟨⟨[], (List.append_nil _).symm⟩, hT, none, none, rfl⟩ (fun _ _ _ _ _ _ _ _ _ => trivial) ?_ ?_) ?_
    · rintro i a env' S2 ha ⟨⟨X, rfl⟩, hT2, o1, o2, rfl⟩
      refine ⟨[1], fun env => env.set 1 (some (.d (.int (0 + (a : Nat))))), tg_name, ?_⟩
      rw [Int.zero_add]
      refine sp_setC (S1 := S' ++ X) (ds := [.int (vatF ns a).1, .int (vatF ns a).2.1, .int (vatF ns a).2.2]) (en_call (ea_cons (ev_var rfl) (ea_cons (ev_var rfl) ea_nil)) ⟨ns, a, rfl, rfl, rfl⟩) ?_
      refine sp_if (b := false) (et_or (a := false) (b := false) (S1 := S' ++ X ++ [vatD (endF (vatF ns a))]) (et_not (a := true) (et_bl ((ev_call (ea_cons (ev_var rfl) ea_nil) ⟨(S' ++ X).length, vatF ns a, rfl, get_app, at_app hT2, rfl, rfl⟩).toS set_app))) (fun _ => et_not (a := true) (et_bl ((ev_call (ea_cons (ev_var rfl) ea_nil) ⟨(S' ++ X).length, endF (vatF ns a), rfl, get_app, at_app hT2, rfl, rfl⟩).toS set_app))) (fun h => by cases h)) (fun h => by cases h) fun _ => sp_next ?_
      exact ⟨⟨X ++ [vatD (endF (endF (vatF ns a)))], by rw [List.append_assoc]⟩, at_app hT2, _, _, rfl⟩
    · rintro env' S2 ⟨hX, hT2, o1, o2, rfl⟩
      exact ⟨hX, hT2, o1, o2, rfl⟩
    · rintro env' S2 ⟨⟨X, rfl⟩, hT2, o1, o2, rfl⟩
      refine sp_setC (ds := [toldD lines0]) (en_lst (ea_cons (ev_metX (met_ok T) hT2 (fun E => ev_callX (ea_cons (ev_op ev_str ev_int (o_mulS mul_x)) ea_nil) (.inr ⟨_, _, rfl, bad_x, rfl, rfl⟩)) (rep_told K _) (fun B => told_rest B T)) ea_nil) (szd (Nat.le_of_ble_eq_true rfl))) ?_
      refine sp_drop ((ev_append (ds := [toldD lines0]) (ev_var rfl) (ev_metX (d := toldD lines0) (met_ok T) (at_app hT2) (fun E => ev_callX (ea_cons ev_str ea_nil) (.inr ⟨_, _, rfl, bad_nl, rfl, rfl⟩)) (rep_told K _) (fun B => told_rest B T)) ⟨_, get_app⟩ get_app (Nat.lt_of_lt_of_le (by show 1 < 2; decide) (szd (Nat.le_of_ble_eq_true rfl)))).toS set_app) ?_
      refine sp_drop ((ev_append (ds := [toldD lines0, toldD lines0]) (d := fineD) (ev_var rfl) (ev_met (x := .d (.str (textS ls7))) (met_ok T) (at_app hT2) (fun E => ev_callR (ea_cons (ev_tup (ds := [.tup [.int 7]]) (ea_cons (ev_tup (ds := [.int 7]) (ea_cons ev_int ea_nil) (szd (Nat.le_of_ble_eq_true rfl))) ea_nil) (szd (Nat.le_of_ble_eq_true rfl))) ea_nil) (.inr ⟨rfl, rfl, rfl⟩)) (rep_fine K)) ⟨_, get_app⟩ get_app (Nat.lt_of_lt_of_le (by show 2 < 3; decide) (szd (Nat.le_of_ble_eq_true rfl)))).toS set_app) ?_
      refine sp_ret (d := .bl true) (S1 := S' ++ X ++ [.lst told2]) ((ev_op (ev_var rfl) (ev_call (d := .lst (words2.map dueD)) (ea_cons (EvN.ev (ds := words2.map Dat.str) (en_lst (ea_cons ev_str (ea_cons ev_str (ea_cons ev_str ea_nil))) (szd (Nat.le_of_ble_eq_true rfl)))) ea_nil) ⟨words2, rfl, Nat.le_of_ble_eq_true rfl, rfl, rfl⟩) (op2_eqD (plS_c pl_words2 get_app) (plS_d (by rw [due_words2]; exact pl_words2)) (by decide) (by decide))).to ?_) ⟨rfl, ?_⟩
      · rw [due_words2, eqD_refl pl_words2]
      · rw [List.append_assoc]; exact take2
end
end N87

set_option Elab.async false
set_option maxRecDepth 100000
set_option maxHeartbeats 4000000
namespace N87
open PySem PySem.Spec PyProof.Rows L2 RW
theorem all_mk {l : PySem.W.OpenLaw} {q : Program} {w : World} {K : PySem.W.Frag} {h : Heap} {mg : Str → Option Value} {fa CL : Addr} (X : K.In h) (G : h.Ns mainGlobals mg) (hfa : mg "law" = some (.ref fa))
    {t_MOST_INPUTS : Tok}
    {t_BEYOND : Tok}
    {t_BENEATH : Tok}
    {t_MOST_POINTS : Tok}
    {t_MOST_MEMBERS : Tok}
    {t_MOST_TEXT : Tok}
    {t_BLANKS : Tok}
    {t_HEAD : Tok}
    {a_InvalidLot : Addr}
    {a_InvalidReading : Addr}
    {a_InvalidNetwork : Addr}
    {a_InvalidText : Addr}
    {a_ParseError : Addr}
    {a_ParseErroru_initu : Addr} {od_ParseErroru_initu an_ParseErroru_initu : Option Addr} {sl_ParseErroru_initu : Array (Option Value)} {oc_ParseErroru_initu kV_ParseErroru_initu dc_ParseErroru_initu pm_ParseErroru_initu cd_ParseErroru_initu ct_ParseErroru_initu : Value}
    {a_are_short_rows : Addr} {od_are_short_rows an_are_short_rows : Option Addr} {sl_are_short_rows : Array (Option Value)} {oc_are_short_rows kV_are_short_rows dc_are_short_rows pm_are_short_rows cd_are_short_rows ct_are_short_rows : Value}
    {a_are_ascending : Addr} {od_are_ascending an_are_ascending : Option Addr} {sl_are_ascending : Array (Option Value)} {oc_are_ascending kV_are_ascending dc_are_ascending pm_are_ascending cd_are_ascending ct_are_ascending : Value}
    {a_is_lot : Addr} {od_is_lot an_is_lot : Option Addr} {sl_is_lot : Array (Option Value)} {oc_is_lot kV_is_lot dc_is_lot pm_is_lot cd_is_lot ct_is_lot : Value}
    {a_need_lot : Addr} {od_need_lot an_need_lot : Option Addr} {sl_need_lot : Array (Option Value)} {oc_need_lot kV_need_lot dc_need_lot pm_need_lot cd_need_lot ct_need_lot : Value}
    {a_need_network : Addr} {od_need_network an_need_network : Option Addr} {sl_need_network : Array (Option Value)} {oc_need_network kV_need_network dc_need_network pm_need_network cd_need_network ct_need_network : Value}
    {a_is_reading : Addr} {od_is_reading an_is_reading : Option Addr} {sl_is_reading : Array (Option Value)} {oc_is_reading kV_is_reading dc_is_reading pm_is_reading cd_is_reading ct_is_reading : Value}
    {a_need_reading : Addr} {od_need_reading an_need_reading : Option Addr} {sl_need_reading : Array (Option Value)} {oc_need_reading kV_need_reading dc_need_reading pm_need_reading cd_need_reading ct_need_reading : Value}
    {a_row_line : Addr} {od_row_line an_row_line : Option Addr} {sl_row_line : Array (Option Value)} {oc_row_line kV_row_line dc_row_line pm_row_line cd_row_line ct_row_line : Value}
    {a_text_of : Addr} {od_text_of an_text_of : Option Addr} {sl_text_of : Array (Option Value)} {oc_text_of kV_text_of dc_text_of pm_text_of cd_text_of ct_text_of : Value}
    {a_lot_text : Addr} {od_lot_text an_lot_text : Option Addr} {sl_lot_text : Array (Option Value)} {oc_lot_text kV_lot_text dc_lot_text pm_lot_text cd_lot_text ct_lot_text : Value}
    {a_reading_text : Addr} {od_reading_text an_reading_text : Option Addr} {sl_reading_text : Array (Option Value)} {oc_reading_text kV_reading_text dc_reading_text pm_reading_text cd_reading_text ct_reading_text : Value}
    {a_network_text : Addr} {od_network_text an_network_text : Option Addr} {sl_network_text : Array (Option Value)} {oc_network_text kV_network_text dc_network_text pm_network_text cd_network_text ct_network_text : Value}
    {a_Linesu_initu : Addr} {od_Linesu_initu an_Linesu_initu : Option Addr} {sl_Linesu_initu : Array (Option Value)} {oc_Linesu_initu kV_Linesu_initu dc_Linesu_initu pm_Linesu_initu cd_Linesu_initu ct_Linesu_initu : Value}
    {a_Lines_line : Addr} {od_Lines_line an_Lines_line : Option Addr} {sl_Lines_line : Array (Option Value)} {oc_Lines_line kV_Lines_line dc_Lines_line pm_Lines_line cd_Lines_line ct_Lines_line : Value}
    {a_Lines_word : Addr} {od_Lines_word an_Lines_word : Option Addr} {sl_Lines_word : Array (Option Value)} {oc_Lines_word kV_Lines_word dc_Lines_word pm_Lines_word cd_Lines_word ct_Lines_word : Value}
    {a_need_text : Addr} {od_need_text an_need_text : Option Addr} {sl_need_text : Array (Option Value)} {oc_need_text kV_need_text dc_need_text pm_need_text cd_need_text ct_need_text : Value}
    {a_read_lot : Addr} {od_read_lot an_read_lot : Option Addr} {sl_read_lot : Array (Option Value)} {oc_read_lot kV_read_lot dc_read_lot pm_read_lot cd_read_lot ct_read_lot : Value}
    {a_read_reading : Addr} {od_read_reading an_read_reading : Option Addr} {sl_read_reading : Array (Option Value)} {oc_read_reading kV_read_reading dc_read_reading pm_read_reading cd_read_reading ct_read_reading : Value}
    {a_inputs_in : Addr} {od_inputs_in an_inputs_in : Option Addr} {sl_inputs_in : Array (Option Value)} {oc_inputs_in kV_inputs_in dc_inputs_in pm_inputs_in cd_inputs_in ct_inputs_in : Value}
    {a_read_network : Addr} {od_read_network an_read_network : Option Addr} {sl_read_network : Array (Option Value)} {oc_read_network kV_read_network dc_read_network pm_read_network cd_read_network ct_read_network : Value}
    {a__law_pack : Addr} {od__law_pack an__law_pack : Option Addr} {sl__law_pack : Array (Option Value)} {oc__law_pack kV__law_pack dc__law_pack pm__law_pack cd__law_pack ct__law_pack : Value}
    {a__law_dealt : Addr} {od__law_dealt an__law_dealt : Option Addr} {sl__law_dealt : Array (Option Value)} {oc__law_dealt kV__law_dealt dc__law_dealt pm__law_dealt cd__law_dealt ct__law_dealt : Value}
    {a__law_one_of : Addr} {od__law_one_of an__law_one_of : Option Addr} {sl__law_one_of : Array (Option Value)} {oc__law_one_of kV__law_one_of dc__law_one_of pm__law_one_of cd__law_one_of ct__law_one_of : Value}
    {a__law_due : Addr} {od__law_due an__law_due : Option Addr} {sl__law_due : Array (Option Value)} {oc__law_due kV__law_due dc__law_due pm__law_due cd__law_due ct__law_due : Value}
    {a__law_word : Addr} {od__law_word an__law_word : Option Addr} {sl__law_word : Array (Option Value)} {oc__law_word kV__law_word dc__law_word pm__law_word cd__law_word ct__law_word : Value}
    {a__law_right : Addr} {od__law_right an__law_right : Option Addr} {sl__law_right : Array (Option Value)} {oc__law_right kV__law_right dc__law_right pm__law_right ct__law_right : Value}
    {c__law_right P__law_right : Addr} {lo__law_right : Value} {ld__law_right : Option Addr} {lv__law_right : Array Value} {ls__law_right : Array (Option Value)}
    {a_law : Addr} {od_law an_law : Option Addr} {sl_law : Array (Option Value)} {oc_law kV_law dc_law pm_law ct_law : Value}
    {c_law P_law : Addr} {lo_law : Value} {ld_law : Option Addr} {lv_law : Array Value} {ls_law : Array (Option Value)}
    {aN : Addr}
    (hCL : PySem.W.nsIn K mainGlobals "Lines" = some (some (.ref CL)))
    (c_MOST_INPUTS : PySem.W.nsIn K mainGlobals "MOST_INPUTS" = some (some (.int 8 t_MOST_INPUTS)))
    (c_BEYOND : PySem.W.nsIn K mainGlobals "BEYOND" = some (some (.int (10 ^ 60) t_BEYOND)))
    (c_BENEATH : PySem.W.nsIn K mainGlobals "BENEATH" = some (some (.int (-(10 ^ 60)) t_BENEATH)))
    (c_MOST_POINTS : PySem.W.nsIn K mainGlobals "MOST_POINTS" = some (some (.int 400 t_MOST_POINTS)))
    (c_MOST_MEMBERS : PySem.W.nsIn K mainGlobals "MOST_MEMBERS" = some (some (.int 8 t_MOST_MEMBERS)))
    (c_MOST_TEXT : PySem.W.nsIn K mainGlobals "MOST_TEXT" = some (some (.int 1200000 t_MOST_TEXT)))
    (c_BLANKS : PySem.W.nsIn K mainGlobals "BLANKS" = some (some (.str (Str.ofString "  ") t_BLANKS)))
    (c_HEAD : PySem.W.nsIn K mainGlobals "HEAD" = some (some (.str (Str.ofString "network ") t_HEAD)))
    (n_InvalidLot : PySem.W.nsIn K mainGlobals "InvalidLot" = some (some (.ref a_InvalidLot)))
    (n_InvalidReading : PySem.W.nsIn K mainGlobals "InvalidReading" = some (some (.ref a_InvalidReading)))
    (n_InvalidNetwork : PySem.W.nsIn K mainGlobals "InvalidNetwork" = some (some (.ref a_InvalidNetwork)))
    (n_InvalidText : PySem.W.nsIn K mainGlobals "InvalidText" = some (some (.ref a_InvalidText)))
    (n_ParseError : PySem.W.nsIn K mainGlobals "ParseError" = some (some (.ref a_ParseError)))
    (a__ParseErroru_initu : PySem.W.findIn K (.ref a_ParseError) "__init__" = some (some (.ref a_ParseErroru_initu)))
    (i__ParseErroru_initu : PySem.W.isFn K (.ref a_ParseErroru_initu) = true)
    (l__ParseErroru_initu : K.lookup a_ParseErroru_initu = some ⟨oc_ParseErroru_initu, od_ParseErroru_initu, .func (PySem.W.fnOf "__init__" "ParseError.__init__" (defArgs s_ParseErroru_initu) (defBody s_ParseErroru_initu) (defScope s_ParseErroru_initu) .none kV_ParseErroru_initu dc_ParseErroru_initu pm_ParseErroru_initu an_ParseErroru_initu cd_ParseErroru_initu ct_ParseErroru_initu), sl_ParseErroru_initu⟩)
    (c__ParseErroru_initu : PySem.W.codeIn K cd_ParseErroru_initu "ParseError.__init__" = true)
    (k__ParseErroru_initu : PySem.W.keepIn K (.ref a_ParseErroru_initu) = true)
    (a__are_short_rows : PySem.W.nsIn K mainGlobals "are_short_rows" = some (some (.ref a_are_short_rows)))
    (l__are_short_rows : K.lookup a_are_short_rows = some ⟨oc_are_short_rows, od_are_short_rows, .func (PySem.W.fnOf "are_short_rows" "are_short_rows" (defArgs s_are_short_rows) (defBody s_are_short_rows) (defScope s_are_short_rows) .none kV_are_short_rows dc_are_short_rows pm_are_short_rows an_are_short_rows cd_are_short_rows ct_are_short_rows), sl_are_short_rows⟩)
    (c__are_short_rows : PySem.W.codeIn K cd_are_short_rows "are_short_rows" = true)
    (k__are_short_rows : PySem.W.keepIn K (.ref a_are_short_rows) = true)
    (a__are_ascending : PySem.W.nsIn K mainGlobals "are_ascending" = some (some (.ref a_are_ascending)))
    (l__are_ascending : K.lookup a_are_ascending = some ⟨oc_are_ascending, od_are_ascending, .func (PySem.W.fnOf "are_ascending" "are_ascending" (defArgs s_are_ascending) (defBody s_are_ascending) (defScope s_are_ascending) .none kV_are_ascending dc_are_ascending pm_are_ascending an_are_ascending cd_are_ascending ct_are_ascending), sl_are_ascending⟩)
    (c__are_ascending : PySem.W.codeIn K cd_are_ascending "are_ascending" = true)
    (k__are_ascending : PySem.W.keepIn K (.ref a_are_ascending) = true)
    (a__is_lot : PySem.W.nsIn K mainGlobals "is_lot" = some (some (.ref a_is_lot)))
    (l__is_lot : K.lookup a_is_lot = some ⟨oc_is_lot, od_is_lot, .func (PySem.W.fnOf "is_lot" "is_lot" (defArgs s_is_lot) (defBody s_is_lot) (defScope s_is_lot) .none kV_is_lot dc_is_lot pm_is_lot an_is_lot cd_is_lot ct_is_lot), sl_is_lot⟩)
    (c__is_lot : PySem.W.codeIn K cd_is_lot "is_lot" = true)
    (k__is_lot : PySem.W.keepIn K (.ref a_is_lot) = true)
    (a__need_lot : PySem.W.nsIn K mainGlobals "need_lot" = some (some (.ref a_need_lot)))
    (l__need_lot : K.lookup a_need_lot = some ⟨oc_need_lot, od_need_lot, .func (PySem.W.fnOf "need_lot" "need_lot" (defArgs s_need_lot) (defBody s_need_lot) (defScope s_need_lot) .none kV_need_lot dc_need_lot pm_need_lot an_need_lot cd_need_lot ct_need_lot), sl_need_lot⟩)
    (c__need_lot : PySem.W.codeIn K cd_need_lot "need_lot" = true)
    (k__need_lot : PySem.W.keepIn K (.ref a_need_lot) = true)
    (a__need_network : PySem.W.nsIn K mainGlobals "need_network" = some (some (.ref a_need_network)))
    (l__need_network : K.lookup a_need_network = some ⟨oc_need_network, od_need_network, .func (PySem.W.fnOf "need_network" "need_network" (defArgs s_need_network) (defBody s_need_network) (defScope s_need_network) .none kV_need_network dc_need_network pm_need_network an_need_network cd_need_network ct_need_network), sl_need_network⟩)
    (c__need_network : PySem.W.codeIn K cd_need_network "need_network" = true)
    (k__need_network : PySem.W.keepIn K (.ref a_need_network) = true)
    (a__is_reading : PySem.W.nsIn K mainGlobals "is_reading" = some (some (.ref a_is_reading)))
    (l__is_reading : K.lookup a_is_reading = some ⟨oc_is_reading, od_is_reading, .func (PySem.W.fnOf "is_reading" "is_reading" (defArgs s_is_reading) (defBody s_is_reading) (defScope s_is_reading) .none kV_is_reading dc_is_reading pm_is_reading an_is_reading cd_is_reading ct_is_reading), sl_is_reading⟩)
    (c__is_reading : PySem.W.codeIn K cd_is_reading "is_reading" = true)
    (k__is_reading : PySem.W.keepIn K (.ref a_is_reading) = true)
    (a__need_reading : PySem.W.nsIn K mainGlobals "need_reading" = some (some (.ref a_need_reading)))
    (l__need_reading : K.lookup a_need_reading = some ⟨oc_need_reading, od_need_reading, .func (PySem.W.fnOf "need_reading" "need_reading" (defArgs s_need_reading) (defBody s_need_reading) (defScope s_need_reading) .none kV_need_reading dc_need_reading pm_need_reading an_need_reading cd_need_reading ct_need_reading), sl_need_reading⟩)
    (c__need_reading : PySem.W.codeIn K cd_need_reading "need_reading" = true)
    (k__need_reading : PySem.W.keepIn K (.ref a_need_reading) = true)
    (a__row_line : PySem.W.nsIn K mainGlobals "row_line" = some (some (.ref a_row_line)))
    (l__row_line : K.lookup a_row_line = some ⟨oc_row_line, od_row_line, .func (PySem.W.fnOf "row_line" "row_line" (defArgs s_row_line) (defBody s_row_line) (defScope s_row_line) .none kV_row_line dc_row_line pm_row_line an_row_line cd_row_line ct_row_line), sl_row_line⟩)
    (c__row_line : PySem.W.codeIn K cd_row_line "row_line" = true)
    (k__row_line : PySem.W.keepIn K (.ref a_row_line) = true)
    (a__text_of : PySem.W.nsIn K mainGlobals "text_of" = some (some (.ref a_text_of)))
    (l__text_of : K.lookup a_text_of = some ⟨oc_text_of, od_text_of, .func (PySem.W.fnOf "text_of" "text_of" (defArgs s_text_of) (defBody s_text_of) (defScope s_text_of) .none kV_text_of dc_text_of pm_text_of an_text_of cd_text_of ct_text_of), sl_text_of⟩)
    (c__text_of : PySem.W.codeIn K cd_text_of "text_of" = true)
    (k__text_of : PySem.W.keepIn K (.ref a_text_of) = true)
    (a__lot_text : PySem.W.nsIn K mainGlobals "lot_text" = some (some (.ref a_lot_text)))
    (l__lot_text : K.lookup a_lot_text = some ⟨oc_lot_text, od_lot_text, .func (PySem.W.fnOf "lot_text" "lot_text" (defArgs s_lot_text) (defBody s_lot_text) (defScope s_lot_text) .none kV_lot_text dc_lot_text pm_lot_text an_lot_text cd_lot_text ct_lot_text), sl_lot_text⟩)
    (c__lot_text : PySem.W.codeIn K cd_lot_text "lot_text" = true)
    (k__lot_text : PySem.W.keepIn K (.ref a_lot_text) = true)
    (a__reading_text : PySem.W.nsIn K mainGlobals "reading_text" = some (some (.ref a_reading_text)))
    (l__reading_text : K.lookup a_reading_text = some ⟨oc_reading_text, od_reading_text, .func (PySem.W.fnOf "reading_text" "reading_text" (defArgs s_reading_text) (defBody s_reading_text) (defScope s_reading_text) .none kV_reading_text dc_reading_text pm_reading_text an_reading_text cd_reading_text ct_reading_text), sl_reading_text⟩)
    (c__reading_text : PySem.W.codeIn K cd_reading_text "reading_text" = true)
    (k__reading_text : PySem.W.keepIn K (.ref a_reading_text) = true)
    (a__network_text : PySem.W.nsIn K mainGlobals "network_text" = some (some (.ref a_network_text)))
    (l__network_text : K.lookup a_network_text = some ⟨oc_network_text, od_network_text, .func (PySem.W.fnOf "network_text" "network_text" (defArgs s_network_text) (defBody s_network_text) (defScope s_network_text) .none kV_network_text dc_network_text pm_network_text an_network_text cd_network_text ct_network_text), sl_network_text⟩)
    (c__network_text : PySem.W.codeIn K cd_network_text "network_text" = true)
    (k__network_text : PySem.W.keepIn K (.ref a_network_text) = true)
    (a__Linesu_initu : PySem.W.findIn K (.ref CL) "__init__" = some (some (.ref a_Linesu_initu)))
    (i__Linesu_initu : PySem.W.isFn K (.ref a_Linesu_initu) = true)
    (l__Linesu_initu : K.lookup a_Linesu_initu = some ⟨oc_Linesu_initu, od_Linesu_initu, .func (PySem.W.fnOf "__init__" "Lines.__init__" (defArgs s_Linesu_initu) (defBody s_Linesu_initu) (defScope s_Linesu_initu) .none kV_Linesu_initu dc_Linesu_initu pm_Linesu_initu an_Linesu_initu cd_Linesu_initu ct_Linesu_initu), sl_Linesu_initu⟩)
    (c__Linesu_initu : PySem.W.codeIn K cd_Linesu_initu "Lines.__init__" = true)
    (k__Linesu_initu : PySem.W.keepIn K (.ref a_Linesu_initu) = true)
    (a__Lines_line : PySem.W.findIn K (.ref CL) "line" = some (some (.ref a_Lines_line)))
    (i__Lines_line : PySem.W.isFn K (.ref a_Lines_line) = true)
    (l__Lines_line : K.lookup a_Lines_line = some ⟨oc_Lines_line, od_Lines_line, .func (PySem.W.fnOf "line" "Lines.line" (defArgs s_Lines_line) (defBody s_Lines_line) (defScope s_Lines_line) .none kV_Lines_line dc_Lines_line pm_Lines_line an_Lines_line cd_Lines_line ct_Lines_line), sl_Lines_line⟩)
    (c__Lines_line : PySem.W.codeIn K cd_Lines_line "Lines.line" = true)
    (k__Lines_line : PySem.W.keepIn K (.ref a_Lines_line) = true)
    (a__Lines_word : PySem.W.findIn K (.ref CL) "word" = some (some (.ref a_Lines_word)))
    (i__Lines_word : PySem.W.isFn K (.ref a_Lines_word) = true)
    (l__Lines_word : K.lookup a_Lines_word = some ⟨oc_Lines_word, od_Lines_word, .func (PySem.W.fnOf "word" "Lines.word" (defArgs s_Lines_word) (defBody s_Lines_word) (defScope s_Lines_word) .none kV_Lines_word dc_Lines_word pm_Lines_word an_Lines_word cd_Lines_word ct_Lines_word), sl_Lines_word⟩)
    (c__Lines_word : PySem.W.codeIn K cd_Lines_word "Lines.word" = true)
    (k__Lines_word : PySem.W.keepIn K (.ref a_Lines_word) = true)
    (a__need_text : PySem.W.nsIn K mainGlobals "need_text" = some (some (.ref a_need_text)))
    (l__need_text : K.lookup a_need_text = some ⟨oc_need_text, od_need_text, .func (PySem.W.fnOf "need_text" "need_text" (defArgs s_need_text) (defBody s_need_text) (defScope s_need_text) .none kV_need_text dc_need_text pm_need_text an_need_text cd_need_text ct_need_text), sl_need_text⟩)
    (c__need_text : PySem.W.codeIn K cd_need_text "need_text" = true)
    (k__need_text : PySem.W.keepIn K (.ref a_need_text) = true)
    (a__read_lot : PySem.W.nsIn K mainGlobals "read_lot" = some (some (.ref a_read_lot)))
    (l__read_lot : K.lookup a_read_lot = some ⟨oc_read_lot, od_read_lot, .func (PySem.W.fnOf "read_lot" "read_lot" (defArgs s_read_lot) (defBody s_read_lot) (defScope s_read_lot) .none kV_read_lot dc_read_lot pm_read_lot an_read_lot cd_read_lot ct_read_lot), sl_read_lot⟩)
    (c__read_lot : PySem.W.codeIn K cd_read_lot "read_lot" = true)
    (k__read_lot : PySem.W.keepIn K (.ref a_read_lot) = true)
    (a__read_reading : PySem.W.nsIn K mainGlobals "read_reading" = some (some (.ref a_read_reading)))
    (l__read_reading : K.lookup a_read_reading = some ⟨oc_read_reading, od_read_reading, .func (PySem.W.fnOf "read_reading" "read_reading" (defArgs s_read_reading) (defBody s_read_reading) (defScope s_read_reading) .none kV_read_reading dc_read_reading pm_read_reading an_read_reading cd_read_reading ct_read_reading), sl_read_reading⟩)
    (c__read_reading : PySem.W.codeIn K cd_read_reading "read_reading" = true)
    (k__read_reading : PySem.W.keepIn K (.ref a_read_reading) = true)
    (a__inputs_in : PySem.W.nsIn K mainGlobals "inputs_in" = some (some (.ref a_inputs_in)))
    (l__inputs_in : K.lookup a_inputs_in = some ⟨oc_inputs_in, od_inputs_in, .func (PySem.W.fnOf "inputs_in" "inputs_in" (defArgs s_inputs_in) (defBody s_inputs_in) (defScope s_inputs_in) .none kV_inputs_in dc_inputs_in pm_inputs_in an_inputs_in cd_inputs_in ct_inputs_in), sl_inputs_in⟩)
    (c__inputs_in : PySem.W.codeIn K cd_inputs_in "inputs_in" = true)
    (k__inputs_in : PySem.W.keepIn K (.ref a_inputs_in) = true)
    (a__read_network : PySem.W.nsIn K mainGlobals "read_network" = some (some (.ref a_read_network)))
    (l__read_network : K.lookup a_read_network = some ⟨oc_read_network, od_read_network, .func (PySem.W.fnOf "read_network" "read_network" (defArgs s_read_network) (defBody s_read_network) (defScope s_read_network) .none kV_read_network dc_read_network pm_read_network an_read_network cd_read_network ct_read_network), sl_read_network⟩)
    (c__read_network : PySem.W.codeIn K cd_read_network "read_network" = true)
    (k__read_network : PySem.W.keepIn K (.ref a_read_network) = true)
    (a___law_pack : PySem.W.nsIn K mainGlobals "_law_pack" = some (some (.ref a__law_pack)))
    (l___law_pack : K.lookup a__law_pack = some ⟨oc__law_pack, od__law_pack, .func (PySem.W.fnOf "_law_pack" "_law_pack" (defArgs s__law_pack) (defBody s__law_pack) (defScope s__law_pack) .none kV__law_pack dc__law_pack pm__law_pack an__law_pack cd__law_pack ct__law_pack), sl__law_pack⟩)
    (c___law_pack : PySem.W.codeIn K cd__law_pack "_law_pack" = true)
    (k___law_pack : PySem.W.keepIn K (.ref a__law_pack) = true)
    (a___law_dealt : PySem.W.nsIn K mainGlobals "_law_dealt" = some (some (.ref a__law_dealt)))
    (l___law_dealt : K.lookup a__law_dealt = some ⟨oc__law_dealt, od__law_dealt, .func (PySem.W.fnOf "_law_dealt" "_law_dealt" (defArgs s__law_dealt) (defBody s__law_dealt) (defScope s__law_dealt) .none kV__law_dealt dc__law_dealt pm__law_dealt an__law_dealt cd__law_dealt ct__law_dealt), sl__law_dealt⟩)
    (c___law_dealt : PySem.W.codeIn K cd__law_dealt "_law_dealt" = true)
    (k___law_dealt : PySem.W.keepIn K (.ref a__law_dealt) = true)
    (a___law_one_of : PySem.W.nsIn K mainGlobals "_law_one_of" = some (some (.ref a__law_one_of)))
    (l___law_one_of : K.lookup a__law_one_of = some ⟨oc__law_one_of, od__law_one_of, .func (PySem.W.fnOf "_law_one_of" "_law_one_of" (defArgs s__law_one_of) (defBody s__law_one_of) (defScope s__law_one_of) .none kV__law_one_of dc__law_one_of pm__law_one_of an__law_one_of cd__law_one_of ct__law_one_of), sl__law_one_of⟩)
    (c___law_one_of : PySem.W.codeIn K cd__law_one_of "_law_one_of" = true)
    (k___law_one_of : PySem.W.keepIn K (.ref a__law_one_of) = true)
    (a___law_due : PySem.W.nsIn K mainGlobals "_law_due" = some (some (.ref a__law_due)))
    (l___law_due : K.lookup a__law_due = some ⟨oc__law_due, od__law_due, .func (PySem.W.fnOf "_law_due" "_law_due" (defArgs s__law_due) (defBody s__law_due) (defScope s__law_due) .none kV__law_due dc__law_due pm__law_due an__law_due cd__law_due ct__law_due), sl__law_due⟩)
    (c___law_due : PySem.W.codeIn K cd__law_due "_law_due" = true)
    (k___law_due : PySem.W.keepIn K (.ref a__law_due) = true)
    (a___law_word : PySem.W.nsIn K mainGlobals "_law_word" = some (some (.ref a__law_word)))
    (l___law_word : K.lookup a__law_word = some ⟨oc__law_word, od__law_word, .func (PySem.W.fnOf "_law_word" "_law_word" (defArgs s__law_word) (defBody s__law_word) (defScope s__law_word) .none kV__law_word dc__law_word pm__law_word an__law_word cd__law_word ct__law_word), sl__law_word⟩)
    (c___law_word : PySem.W.codeIn K cd__law_word "_law_word" = true)
    (k___law_word : PySem.W.keepIn K (.ref a__law_word) = true)
    (a___law_right : PySem.W.nsIn K mainGlobals "_law_right" = some (some (.ref a__law_right)))
    (l___law_right : K.lookup a__law_right = some ⟨oc__law_right, od__law_right, .func (PySem.W.fnOf "_law_right" "_law_right" (defArgs s__law_right) (defBody s__law_right) (defScope s__law_right) .none kV__law_right dc__law_right pm__law_right an__law_right (.ref c__law_right) ct__law_right), sl__law_right⟩)
    (c___law_right : PySem.W.codeIn K (.ref c__law_right) "_law_right" = true)
    (k___law_right : PySem.W.keepIn K (.ref a__law_right) = true)
    (lc__law_right : K.lookup c__law_right = some ⟨lo__law_right, ld__law_right, .fields lv__law_right, ls__law_right⟩)
    (lp__law_right : (lv__law_right[11]? : Option Value) = some (.ref P__law_right))
    (np__law_right : K.lookup P__law_right = none)
    (rf__law_right : ((recsOf q).find? fun e => e.name == ("_law_right" : Str)).isSome = true)
    (a__law : PySem.W.nsIn K mainGlobals "law" = some (some (.ref a_law)))
    (l__law : K.lookup a_law = some ⟨oc_law, od_law, .func (PySem.W.fnOf "law" "law" (defArgs s_law) (defBody s_law) (defScope s_law) .none kV_law dc_law pm_law an_law (.ref c_law) ct_law), sl_law⟩)
    (c__law : PySem.W.codeIn K (.ref c_law) "law" = true)
    (k__law : PySem.W.keepIn K (.ref a_law) = true)
    (lc_law : K.lookup c_law = some ⟨lo_law, ld_law, .fields lv_law, ls_law⟩)
    (lp_law : (lv_law[11]? : Option Value) = some (.ref P_law))
    (np_law : K.lookup P_law = none)
    (rf_law : ((recsOf q).find? fun e => e.name == ("law" : Str)).isSome = true)
    (pn__law_right_law : P__law_right ≠ P_law)
    (z_isinstance : PySem.W.nsIn K mainGlobals "isinstance" = some none)
    (z_int : PySem.W.nsIn K mainGlobals "int" = some none)
    (z_bool : PySem.W.nsIn K mainGlobals "bool" = some none)
    (z_tuple : PySem.W.nsIn K mainGlobals "tuple" = some none)
    (z_list : PySem.W.nsIn K mainGlobals "list" = some none)
    (z_len : PySem.W.nsIn K mainGlobals "len" = some none)
    (z_sum : PySem.W.nsIn K mainGlobals "sum" = some none)
    (z_all : PySem.W.nsIn K mainGlobals "all" = some none)
    (z_any : PySem.W.nsIn K mainGlobals "any" = some none)
    (z_zip : PySem.W.nsIn K mainGlobals "zip" = some none)
    (z_max : PySem.W.nsIn K mainGlobals "max" = some none)
    (z_min : PySem.W.nsIn K mainGlobals "min" = some none)
    (z_abs : PySem.W.nsIn K mainGlobals "abs" = some none)
    (z_range : PySem.W.nsIn K mainGlobals "range" = some none)
    (z_enumerate : PySem.W.nsIn K mainGlobals "enumerate" = some none)
    (z_reversed : PySem.W.nsIn K mainGlobals "reversed" = some none)
    (z_sorted : PySem.W.nsIn K mainGlobals "sorted" = some none)
    (z_str : PySem.W.nsIn K mainGlobals "str" = some none)
    (z_repr : PySem.W.nsIn K mainGlobals "repr" = some none)
    (z_dict : PySem.W.nsIn K mainGlobals "dict" = some none)
    (pgCL : PySem.W.plainGet K CL Str.empty = true)
    (hdCL : PySem.W.hasDictIn K CL = true)
    (poCL : PySem.W.plainOver K CL = true)
    (saCL : PySem.W.findIn K (.ref CL) "__setattr__" = some (some (.builtin "object.__setattr__")))
    (mkCL : PySem.W.makesIn K CL = true)
    (kcCL : PySem.W.keepIn K (.ref CL) = true)
    (nCL_lines : PySem.W.findIn K (.ref CL) "lines" = some none)
    (nCL_at : PySem.W.findIn K (.ref CL) "at" = some none)
    (k_InvalidLot : PySem.W.keepIn K (.ref a_InvalidLot) = true)
    (be_InvalidLot : PySem.W.subIn K (.ref a_InvalidLot) (.type "BaseException") = some true)
    (ty_InvalidLot : PySem.W.typeIn K (.ref a_InvalidLot) = some (.type "type"))
    (ic_InvalidLot : PySem.W.isClsIn K a_InvalidLot = true)
    (x_InvalidLot : PySem.W.excIn K a_InvalidLot [.type "ValueError", .type "Exception", .type "BaseException", .type "object"] "ValueError.__new__" = true)
    (k_InvalidReading : PySem.W.keepIn K (.ref a_InvalidReading) = true)
    (be_InvalidReading : PySem.W.subIn K (.ref a_InvalidReading) (.type "BaseException") = some true)
    (ty_InvalidReading : PySem.W.typeIn K (.ref a_InvalidReading) = some (.type "type"))
    (ic_InvalidReading : PySem.W.isClsIn K a_InvalidReading = true)
    (x_InvalidReading : PySem.W.excIn K a_InvalidReading [.type "ValueError", .type "Exception", .type "BaseException", .type "object"] "ValueError.__new__" = true)
    (k_InvalidNetwork : PySem.W.keepIn K (.ref a_InvalidNetwork) = true)
    (be_InvalidNetwork : PySem.W.subIn K (.ref a_InvalidNetwork) (.type "BaseException") = some true)
    (ty_InvalidNetwork : PySem.W.typeIn K (.ref a_InvalidNetwork) = some (.type "type"))
    (ic_InvalidNetwork : PySem.W.isClsIn K a_InvalidNetwork = true)
    (x_InvalidNetwork : PySem.W.excIn K a_InvalidNetwork [.type "ValueError", .type "Exception", .type "BaseException", .type "object"] "ValueError.__new__" = true)
    (k_InvalidText : PySem.W.keepIn K (.ref a_InvalidText) = true)
    (be_InvalidText : PySem.W.subIn K (.ref a_InvalidText) (.type "BaseException") = some true)
    (ty_InvalidText : PySem.W.typeIn K (.ref a_InvalidText) = some (.type "type"))
    (ic_InvalidText : PySem.W.isClsIn K a_InvalidText = true)
    (x_InvalidText : PySem.W.excIn K a_InvalidText [.type "ValueError", .type "Exception", .type "BaseException", .type "object"] "ValueError.__new__" = true)
    (k_ParseError : PySem.W.keepIn K (.ref a_ParseError) = true)
    (be_ParseError : PySem.W.subIn K (.ref a_ParseError) (.type "BaseException") = some true)
    (ty_ParseError : PySem.W.typeIn K (.ref a_ParseError) = some (.type "type"))
    (ic_ParseError : PySem.W.isClsIn K a_ParseError = true)
    (ol_ParseError : ∃ nm q N bs bm sn sub ab col dd k0 k1 k2 k3 k5, K.lookup a_ParseError = some (PySem.excClassObj nm q a_ParseError N bs bm true sn sub ab col dd k0 k1 k2 k3 k5 "ValueError.__new__") ∧ PySem.HandSPX.refsVE bm = true)
    (os_ParseError : PySem.W.findIn K (.ref a_ParseError) "__setattr__" = some (some (.builtin "object.__setattr__")))
    (ot_ParseError : PySem.W.typeIn K (.ref a_ParseErroru_initu) = some (.type "function"))
    (nf_ParseError : PySem.W.findIn K (.ref a_ParseError) "spot" = some none)
    (ga_ParseError : PySem.W.findIn K (.ref a_ParseError) "__getattribute__" = some (some (.builtin "BaseException.__getattribute__")))
    (gg_ParseError : PySem.W.findIn K (.ref a_ParseError) "__getattr__" = some none)
    (hc_ParseError : PySem.W.hasDictIn K a_ParseError = true)
    (sb_InvalidLot_InvalidLot : PySem.W.subIn K (.ref a_InvalidLot) (.ref a_InvalidLot) = some true)
    (sb_InvalidLot_InvalidReading : PySem.W.subIn K (.ref a_InvalidLot) (.ref a_InvalidReading) = some false)
    (sb_InvalidLot_InvalidNetwork : PySem.W.subIn K (.ref a_InvalidLot) (.ref a_InvalidNetwork) = some false)
    (sb_InvalidLot_InvalidText : PySem.W.subIn K (.ref a_InvalidLot) (.ref a_InvalidText) = some false)
    (sb_InvalidLot_ParseError : PySem.W.subIn K (.ref a_InvalidLot) (.ref a_ParseError) = some false)
    (sb_InvalidReading_InvalidLot : PySem.W.subIn K (.ref a_InvalidReading) (.ref a_InvalidLot) = some false)
    (sb_InvalidReading_InvalidReading : PySem.W.subIn K (.ref a_InvalidReading) (.ref a_InvalidReading) = some true)
    (sb_InvalidReading_InvalidNetwork : PySem.W.subIn K (.ref a_InvalidReading) (.ref a_InvalidNetwork) = some false)
    (sb_InvalidReading_InvalidText : PySem.W.subIn K (.ref a_InvalidReading) (.ref a_InvalidText) = some false)
    (sb_InvalidReading_ParseError : PySem.W.subIn K (.ref a_InvalidReading) (.ref a_ParseError) = some false)
    (sb_InvalidNetwork_InvalidLot : PySem.W.subIn K (.ref a_InvalidNetwork) (.ref a_InvalidLot) = some false)
    (sb_InvalidNetwork_InvalidReading : PySem.W.subIn K (.ref a_InvalidNetwork) (.ref a_InvalidReading) = some false)
    (sb_InvalidNetwork_InvalidNetwork : PySem.W.subIn K (.ref a_InvalidNetwork) (.ref a_InvalidNetwork) = some true)
    (sb_InvalidNetwork_InvalidText : PySem.W.subIn K (.ref a_InvalidNetwork) (.ref a_InvalidText) = some false)
    (sb_InvalidNetwork_ParseError : PySem.W.subIn K (.ref a_InvalidNetwork) (.ref a_ParseError) = some false)
    (sb_InvalidText_InvalidLot : PySem.W.subIn K (.ref a_InvalidText) (.ref a_InvalidLot) = some false)
    (sb_InvalidText_InvalidReading : PySem.W.subIn K (.ref a_InvalidText) (.ref a_InvalidReading) = some false)
    (sb_InvalidText_InvalidNetwork : PySem.W.subIn K (.ref a_InvalidText) (.ref a_InvalidNetwork) = some false)
    (sb_InvalidText_InvalidText : PySem.W.subIn K (.ref a_InvalidText) (.ref a_InvalidText) = some true)
    (sb_InvalidText_ParseError : PySem.W.subIn K (.ref a_InvalidText) (.ref a_ParseError) = some false)
    (sb_ParseError_InvalidLot : PySem.W.subIn K (.ref a_ParseError) (.ref a_InvalidLot) = some false)
    (sb_ParseError_InvalidReading : PySem.W.subIn K (.ref a_ParseError) (.ref a_InvalidReading) = some false)
    (sb_ParseError_InvalidNetwork : PySem.W.subIn K (.ref a_ParseError) (.ref a_InvalidNetwork) = some false)
    (sb_ParseError_InvalidText : PySem.W.subIn K (.ref a_ParseError) (.ref a_InvalidText) = some false)
    (sb_ParseError_ParseError : PySem.W.subIn K (.ref a_ParseError) (.ref a_ParseError) = some true)
    (hN : PySem.W.nsIn K mainGlobals "Network" = some (some (.ref aN)))
    (icN : PySem.W.isClsIn K aN = true)
    (tyN : PySem.W.typeIn K (.ref aN) = some (.type "type"))
    (sN_NoneType : PySem.W.subIn K (.type "NoneType") (.ref aN) = some false)
    (sN_bool : PySem.W.subIn K (.type "bool") (.ref aN) = some false)
    (sN_int : PySem.W.subIn K (.type "int") (.ref aN) = some false)
    (sN_str : PySem.W.subIn K (.type "str") (.ref aN) = some false)
    (sN_tuple : PySem.W.subIn K (.type "tuple") (.ref aN) = some false)
    (sN_list : PySem.W.subIn K (.type "list") (.ref aN) = some false)
    (sN_dict : PySem.W.subIn K (.type "dict") (.ref aN) = some false) : LamEnd l q w K 9 63 "script" mg fa := by
  have e := hfa.symm.trans (PySem.W.mg_of X G a__law)
  cases e
  have F_ParseErroru_initu := fun_mk (st := s_ParseErroru_initu) l__ParseErroru_initu c__ParseErroru_initu k__ParseErroru_initu
  have b_ParseErroru_initu := F_ParseErroru_initu.binds (ps := ["self", "spot"]) fun _ _ _ _ _ _ us hl => match us, hl with | [_, _], _ => rfl
  have F_are_short_rows := fun_mk (st := s_are_short_rows) l__are_short_rows c__are_short_rows k__are_short_rows
  have b_are_short_rows := F_are_short_rows.binds (ps := ["value", "most_rows", "most_length"]) fun _ _ _ _ _ _ us hl => match us, hl with | [_, _, _], _ => rfl
  have F_are_ascending := fun_mk (st := s_are_ascending) l__are_ascending c__are_ascending k__are_ascending
  have b_are_ascending := F_are_ascending.binds (ps := ["values"]) fun _ _ _ _ _ _ us hl => match us, hl with | [_], _ => rfl
  have F_is_lot := fun_mk (st := s_is_lot) l__is_lot c__is_lot k__is_lot
  have b_is_lot := F_is_lot.binds (ps := ["value"]) fun _ _ _ _ _ _ us hl => match us, hl with | [_], _ => rfl
  have F_need_lot := fun_mk (st := s_need_lot) l__need_lot c__need_lot k__need_lot
  have b_need_lot := F_need_lot.binds (ps := ["lot"]) fun _ _ _ _ _ _ us hl => match us, hl with | [_], _ => rfl
  have F_need_network := fun_mk (st := s_need_network) l__need_network c__need_network k__need_network
  have b_need_network := F_need_network.binds (ps := ["network"]) fun _ _ _ _ _ _ us hl => match us, hl with | [_], _ => rfl
  have F_is_reading := fun_mk (st := s_is_reading) l__is_reading c__is_reading k__is_reading
  have b_is_reading := F_is_reading.binds (ps := ["value"]) fun _ _ _ _ _ _ us hl => match us, hl with | [_], _ => rfl
  have F_need_reading := fun_mk (st := s_need_reading) l__need_reading c__need_reading k__need_reading
  have b_need_reading := F_need_reading.binds (ps := ["reading"]) fun _ _ _ _ _ _ us hl => match us, hl with | [_], _ => rfl
  have F_row_line := fun_mk (st := s_row_line) l__row_line c__row_line k__row_line
  have b_row_line := F_row_line.binds (ps := ["row"]) fun _ _ _ _ _ _ us hl => match us, hl with | [_], _ => rfl
  have F_text_of := fun_mk (st := s_text_of) l__text_of c__text_of k__text_of
  have b_text_of := F_text_of.binds (ps := ["lines"]) fun _ _ _ _ _ _ us hl => match us, hl with | [_], _ => rfl
  have F_lot_text := fun_mk (st := s_lot_text) l__lot_text c__lot_text k__lot_text
  have b_lot_text := F_lot_text.binds (ps := ["lot"]) fun _ _ _ _ _ _ us hl => match us, hl with | [_], _ => rfl
  have F_reading_text := fun_mk (st := s_reading_text) l__reading_text c__reading_text k__reading_text
  have b_reading_text := F_reading_text.binds (ps := ["reading"]) fun _ _ _ _ _ _ us hl => match us, hl with | [_], _ => rfl
  have F_network_text := fun_mk (st := s_network_text) l__network_text c__network_text k__network_text
  have b_network_text := F_network_text.binds (ps := ["network"]) fun _ _ _ _ _ _ us hl => match us, hl with | [_], _ => rfl
  have F_Linesu_initu := fun_mk (st := s_Linesu_initu) l__Linesu_initu c__Linesu_initu k__Linesu_initu
  have b_Linesu_initu := F_Linesu_initu.binds (ps := ["self", "text"]) fun _ _ _ _ _ _ us hl => match us, hl with | [_, _], _ => rfl
  have F_Lines_line := fun_mk (st := s_Lines_line) l__Lines_line c__Lines_line k__Lines_line
  have b_Lines_line := F_Lines_line.binds (ps := ["self"]) fun _ _ _ _ _ _ us hl => match us, hl with | [_], _ => rfl
  have F_Lines_word := fun_mk (st := s_Lines_word) l__Lines_word c__Lines_word k__Lines_word
  have b_Lines_word := F_Lines_word.binds (ps := ["self", "word"]) fun _ _ _ _ _ _ us hl => match us, hl with | [_, _], _ => rfl
  have F_need_text := fun_mk (st := s_need_text) l__need_text c__need_text k__need_text
  have b_need_text := F_need_text.binds (ps := ["text"]) fun _ _ _ _ _ _ us hl => match us, hl with | [_], _ => rfl
  have F_read_lot := fun_mk (st := s_read_lot) l__read_lot c__read_lot k__read_lot
  have b_read_lot := F_read_lot.binds (ps := ["text"]) fun _ _ _ _ _ _ us hl => match us, hl with | [_], _ => rfl
  have F_read_reading := fun_mk (st := s_read_reading) l__read_reading c__read_reading k__read_reading
  have b_read_reading := F_read_reading.binds (ps := ["text"]) fun _ _ _ _ _ _ us hl => match us, hl with | [_], _ => rfl
  have F_inputs_in := fun_mk (st := s_inputs_in) l__inputs_in c__inputs_in k__inputs_in
  have b_inputs_in := F_inputs_in.binds (ps := ["lines"]) fun _ _ _ _ _ _ us hl => match us, hl with | [_], _ => rfl
  have F_read_network := fun_mk (st := s_read_network) l__read_network c__read_network k__read_network
  have b_read_network := F_read_network.binds (ps := ["text"]) fun _ _ _ _ _ _ us hl => match us, hl with | [_], _ => rfl
  have F__law_pack := fun_mk (st := s__law_pack) l___law_pack c___law_pack k___law_pack
  have b__law_pack := F__law_pack.binds (ps := ["script", "spot"]) fun _ _ _ _ _ _ us hl => match us, hl with | [_, _], _ => rfl
  have F__law_dealt := fun_mk (st := s__law_dealt) l___law_dealt c___law_dealt k___law_dealt
  have b__law_dealt := F__law_dealt.binds (ps := ["pack", "total"]) fun _ _ _ _ _ _ us hl => match us, hl with | [_, _], _ => rfl
  have F__law_one_of := fun_mk (st := s__law_one_of) l___law_one_of c___law_one_of k___law_one_of
  have b__law_one_of := F__law_one_of.binds (ps := ["pack", "items"]) fun _ _ _ _ _ _ us hl => match us, hl with | [_, _], _ => rfl
  have F__law_due := fun_mk (st := s__law_due) l___law_due c___law_due k___law_due
  have b__law_due := F__law_due.binds (ps := ["words"]) fun _ _ _ _ _ _ us hl => match us, hl with | [_], _ => rfl
  have F__law_word := fun_mk (st := s__law_word) l___law_word c___law_word k___law_word
  have b__law_word := F__law_word.binds (ps := ["call"]) fun _ _ _ _ _ _ us hl => match us, hl with | [_], _ => rfl
  have F__law_right := fun_mk (st := s__law_right) l___law_right c___law_right k___law_right
  have b__law_right := F__law_right.binds (ps := ["pack"]) fun _ _ _ _ _ _ us hl => match us, hl with | [_], _ => rfl
  have F_law := fun_mk (st := s_law) l__law c__law k__law
  have b_law := F_law.binds (ps := ["script"]) fun _ _ _ _ _ _ us hl => match us, hl with | [_], _ => rfl
  let T : Txt K mg := { a_ParseErroru_initu := a_ParseErroru_initu, d_ParseErroru_initu := _, F_ParseErroru_initu := F_ParseErroru_initu, b_ParseErroru_initu := b_ParseErroru_initu, a_are_short_rows := a_are_short_rows, d_are_short_rows := _, F_are_short_rows := F_are_short_rows, b_are_short_rows := b_are_short_rows, m_are_short_rows := PySem.W.mg_of X G a__are_short_rows, k_are_short_rows := k__are_short_rows, a_are_ascending := a_are_ascending, d_are_ascending := _, F_are_ascending := F_are_ascending, b_are_ascending := b_are_ascending, m_are_ascending := PySem.W.mg_of X G a__are_ascending, k_are_ascending := k__are_ascending, a_is_lot := a_is_lot, d_is_lot := _, F_is_lot := F_is_lot, b_is_lot := b_is_lot, m_is_lot := PySem.W.mg_of X G a__is_lot, k_is_lot := k__is_lot, a_need_lot := a_need_lot, d_need_lot := _, F_need_lot := F_need_lot, b_need_lot := b_need_lot, m_need_lot := PySem.W.mg_of X G a__need_lot, k_need_lot := k__need_lot, a_need_network := a_need_network, d_need_network := _, F_need_network := F_need_network, b_need_network := b_need_network, m_need_network := PySem.W.mg_of X G a__need_network, k_need_network := k__need_network, a_is_reading := a_is_reading, d_is_reading := _, F_is_reading := F_is_reading, b_is_reading := b_is_reading, m_is_reading := PySem.W.mg_of X G a__is_reading, k_is_reading := k__is_reading, a_need_reading := a_need_reading, d_need_reading := _, F_need_reading := F_need_reading, b_need_reading := b_need_reading, m_need_reading := PySem.W.mg_of X G a__need_reading, k_need_reading := k__need_reading, a_row_line := a_row_line, d_row_line := _, F_row_line := F_row_line, b_row_line := b_row_line, m_row_line := PySem.W.mg_of X G a__row_line, k_row_line := k__row_line, a_text_of := a_text_of, d_text_of := _, F_text_of := F_text_of, b_text_of := b_text_of, m_text_of := PySem.W.mg_of X G a__text_of, k_text_of := k__text_of, a_lot_text := a_lot_text, d_lot_text := _, F_lot_text := F_lot_text, b_lot_text := b_lot_text, m_lot_text := PySem.W.mg_of X G a__lot_text, k_lot_text := k__lot_text, a_reading_text := a_reading_text, d_reading_text := _, F_reading_text := F_reading_text, b_reading_text := b_reading_text, m_reading_text := PySem.W.mg_of X G a__reading_text, k_reading_text := k__reading_text, a_network_text := a_network_text, d_network_text := _, F_network_text := F_network_text, b_network_text := b_network_text, m_network_text := PySem.W.mg_of X G a__network_text, k_network_text := k__network_text, a_Linesu_initu := a_Linesu_initu, d_Linesu_initu := _, F_Linesu_initu := F_Linesu_initu, b_Linesu_initu := b_Linesu_initu, a_Lines_line := a_Lines_line, d_Lines_line := _, F_Lines_line := F_Lines_line, b_Lines_line := b_Lines_line, a_Lines_word := a_Lines_word, d_Lines_word := _, F_Lines_word := F_Lines_word, b_Lines_word := b_Lines_word, a_need_text := a_need_text, d_need_text := _, F_need_text := F_need_text, b_need_text := b_need_text, m_need_text := PySem.W.mg_of X G a__need_text, k_need_text := k__need_text, a_read_lot := a_read_lot, d_read_lot := _, F_read_lot := F_read_lot, b_read_lot := b_read_lot, m_read_lot := PySem.W.mg_of X G a__read_lot, k_read_lot := k__read_lot, a_read_reading := a_read_reading, d_read_reading := _, F_read_reading := F_read_reading, b_read_reading := b_read_reading, m_read_reading := PySem.W.mg_of X G a__read_reading, k_read_reading := k__read_reading, a_inputs_in := a_inputs_in, d_inputs_in := _, F_inputs_in := F_inputs_in, b_inputs_in := b_inputs_in, m_inputs_in := PySem.W.mg_of X G a__inputs_in, k_inputs_in := k__inputs_in, a_read_network := a_read_network, d_read_network := _, F_read_network := F_read_network, b_read_network := b_read_network, m_read_network := PySem.W.mg_of X G a__read_network, k_read_network := k__read_network, a__law_pack := a__law_pack, d__law_pack := _, F__law_pack := F__law_pack, b__law_pack := b__law_pack, m__law_pack := PySem.W.mg_of X G a___law_pack, k__law_pack := k___law_pack, a__law_dealt := a__law_dealt, d__law_dealt := _, F__law_dealt := F__law_dealt, b__law_dealt := b__law_dealt, m__law_dealt := PySem.W.mg_of X G a___law_dealt, k__law_dealt := k___law_dealt, a__law_one_of := a__law_one_of, d__law_one_of := _, F__law_one_of := F__law_one_of, b__law_one_of := b__law_one_of, m__law_one_of := PySem.W.mg_of X G a___law_one_of, k__law_one_of := k___law_one_of, a__law_due := a__law_due, d__law_due := _, F__law_due := F__law_due, b__law_due := b__law_due, m__law_due := PySem.W.mg_of X G a___law_due, k__law_due := k___law_due, a__law_word := a__law_word, d__law_word := _, F__law_word := F__law_word, b__law_word := b__law_word, m__law_word := PySem.W.mg_of X G a___law_word, k__law_word := k___law_word, a__law_right := a__law_right, d__law_right := _, F__law_right := F__law_right, b__law_right := b__law_right, m__law_right := PySem.W.mg_of X G a___law_right, k__law_right := k___law_right, a_law := fa, d_law := _, F_law := F_law, b_law := b_law, t_MOST_INPUTS := t_MOST_INPUTS, m_MOST_INPUTS := PySem.W.mg_of X G c_MOST_INPUTS, t_BEYOND := t_BEYOND, m_BEYOND := PySem.W.mg_of X G c_BEYOND, t_BENEATH := t_BENEATH, m_BENEATH := PySem.W.mg_of X G c_BENEATH, t_MOST_POINTS := t_MOST_POINTS, m_MOST_POINTS := PySem.W.mg_of X G c_MOST_POINTS, t_MOST_MEMBERS := t_MOST_MEMBERS, m_MOST_MEMBERS := PySem.W.mg_of X G c_MOST_MEMBERS, t_MOST_TEXT := t_MOST_TEXT, m_MOST_TEXT := PySem.W.mg_of X G c_MOST_TEXT, t_BLANKS := t_BLANKS, m_BLANKS := PySem.W.mg_of X G c_BLANKS, t_HEAD := t_HEAD, m_HEAD := PySem.W.mg_of X G c_HEAD, n_isinstance := PySem.W.mg_none_of X G z_isinstance, n_int := PySem.W.mg_none_of X G z_int, n_bool := PySem.W.mg_none_of X G z_bool, n_tuple := PySem.W.mg_none_of X G z_tuple, n_list := PySem.W.mg_none_of X G z_list, n_len := PySem.W.mg_none_of X G z_len, n_sum := PySem.W.mg_none_of X G z_sum, n_all := PySem.W.mg_none_of X G z_all, n_any := PySem.W.mg_none_of X G z_any, n_zip := PySem.W.mg_none_of X G z_zip, n_max := PySem.W.mg_none_of X G z_max, n_min := PySem.W.mg_none_of X G z_min, n_abs := PySem.W.mg_none_of X G z_abs, n_range := PySem.W.mg_none_of X G z_range, n_enumerate := PySem.W.mg_none_of X G z_enumerate, n_reversed := PySem.W.mg_none_of X G z_reversed, n_sorted := PySem.W.mg_none_of X G z_sorted, n_str := PySem.W.mg_none_of X G z_str, n_repr := PySem.W.mg_none_of X G z_repr, n_dict := PySem.W.mg_none_of X G z_dict, CL := CL, cl_Lines := ⟨pgCL, hdCL, poCL, saCL⟩, m_Lines := PySem.W.mg_of X G hCL, M_Lines := ⟨mkCL, a__Linesu_initu, i__Linesu_initu, kcCL⟩, na_Lines_lines := nCL_lines, na_Lines_at := nCL_at, me_Lines_line := ⟨a__Lines_line, i__Lines_line, k__Lines_line⟩, me_Lines_word := ⟨a__Lines_word, i__Lines_word, k__Lines_word⟩, a_InvalidLot := a_InvalidLot, m_InvalidLot := PySem.W.mg_of X G n_InvalidLot, k_InvalidLot := k_InvalidLot, be_InvalidLot := be_InvalidLot, ty_InvalidLot := ty_InvalidLot, x_InvalidLot := x_InvalidLot, a_InvalidReading := a_InvalidReading, m_InvalidReading := PySem.W.mg_of X G n_InvalidReading, k_InvalidReading := k_InvalidReading, be_InvalidReading := be_InvalidReading, ty_InvalidReading := ty_InvalidReading, x_InvalidReading := x_InvalidReading, a_InvalidNetwork := a_InvalidNetwork, m_InvalidNetwork := PySem.W.mg_of X G n_InvalidNetwork, k_InvalidNetwork := k_InvalidNetwork, be_InvalidNetwork := be_InvalidNetwork, ty_InvalidNetwork := ty_InvalidNetwork, x_InvalidNetwork := x_InvalidNetwork, a_InvalidText := a_InvalidText, m_InvalidText := PySem.W.mg_of X G n_InvalidText, k_InvalidText := k_InvalidText, be_InvalidText := be_InvalidText, ty_InvalidText := ty_InvalidText, x_InvalidText := x_InvalidText, a_ParseError := a_ParseError, m_ParseError := PySem.W.mg_of X G n_ParseError, k_ParseError := k_ParseError, be_ParseError := be_ParseError, ty_ParseError := ty_ParseError, ox_ParseError := ⟨ol_ParseError, os_ParseError, be_ParseError, ty_ParseError, k_ParseError⟩, oi_ParseError := a__ParseErroru_initu, ot_ParseError := ot_ParseError, nf_ParseError := nf_ParseError, xf_ParseError := ⟨ga_ParseError, gg_ParseError, be_ParseError, hc_ParseError⟩, em_InvalidLot_InvalidLot := RW.exm_of be_InvalidLot ic_InvalidLot ty_InvalidLot sb_InvalidLot_InvalidLot, em_InvalidLot_InvalidReading := RW.exm_of be_InvalidReading ic_InvalidReading ty_InvalidReading sb_InvalidLot_InvalidReading, em_InvalidLot_InvalidNetwork := RW.exm_of be_InvalidNetwork ic_InvalidNetwork ty_InvalidNetwork sb_InvalidLot_InvalidNetwork, em_InvalidLot_InvalidText := RW.exm_of be_InvalidText ic_InvalidText ty_InvalidText sb_InvalidLot_InvalidText, em_InvalidLot_ParseError := RW.exm_of be_ParseError ic_ParseError ty_ParseError sb_InvalidLot_ParseError, em_InvalidReading_InvalidLot := RW.exm_of be_InvalidLot ic_InvalidLot ty_InvalidLot sb_InvalidReading_InvalidLot, em_InvalidReading_InvalidReading := RW.exm_of be_InvalidReading ic_InvalidReading ty_InvalidReading sb_InvalidReading_InvalidReading, em_InvalidReading_InvalidNetwork := RW.exm_of be_InvalidNetwork ic_InvalidNetwork ty_InvalidNetwork sb_InvalidReading_InvalidNetwork, em_InvalidReading_InvalidText := RW.exm_of be_InvalidText ic_InvalidText ty_InvalidText sb_InvalidReading_InvalidText, em_InvalidReading_ParseError := RW.exm_of be_ParseError ic_ParseError ty_ParseError sb_InvalidReading_ParseError, em_InvalidNetwork_InvalidLot := RW.exm_of be_InvalidLot ic_InvalidLot ty_InvalidLot sb_InvalidNetwork_InvalidLot, em_InvalidNetwork_InvalidReading := RW.exm_of be_InvalidReading ic_InvalidReading ty_InvalidReading sb_InvalidNetwork_InvalidReading, em_InvalidNetwork_InvalidNetwork := RW.exm_of be_InvalidNetwork ic_InvalidNetwork ty_InvalidNetwork sb_InvalidNetwork_InvalidNetwork, em_InvalidNetwork_InvalidText := RW.exm_of be_InvalidText ic_InvalidText ty_InvalidText sb_InvalidNetwork_InvalidText, em_InvalidNetwork_ParseError := RW.exm_of be_ParseError ic_ParseError ty_ParseError sb_InvalidNetwork_ParseError, em_InvalidText_InvalidLot := RW.exm_of be_InvalidLot ic_InvalidLot ty_InvalidLot sb_InvalidText_InvalidLot, em_InvalidText_InvalidReading := RW.exm_of be_InvalidReading ic_InvalidReading ty_InvalidReading sb_InvalidText_InvalidReading, em_InvalidText_InvalidNetwork := RW.exm_of be_InvalidNetwork ic_InvalidNetwork ty_InvalidNetwork sb_InvalidText_InvalidNetwork, em_InvalidText_InvalidText := RW.exm_of be_InvalidText ic_InvalidText ty_InvalidText sb_InvalidText_InvalidText, em_InvalidText_ParseError := RW.exm_of be_ParseError ic_ParseError ty_ParseError sb_InvalidText_ParseError, em_ParseError_InvalidLot := RW.exm_of be_InvalidLot ic_InvalidLot ty_InvalidLot sb_ParseError_InvalidLot, em_ParseError_InvalidReading := RW.exm_of be_InvalidReading ic_InvalidReading ty_InvalidReading sb_ParseError_InvalidReading, em_ParseError_InvalidNetwork := RW.exm_of be_InvalidNetwork ic_InvalidNetwork ty_InvalidNetwork sb_ParseError_InvalidNetwork, em_ParseError_InvalidText := RW.exm_of be_InvalidText ic_InvalidText ty_InvalidText sb_ParseError_InvalidText, em_ParseError_ParseError := RW.exm_of be_ParseError ic_ParseError ty_ParseError sb_ParseError_ParseError, c__law_right := c__law_right, P__law_right := P__law_right, lk__law_right := ⟨_, _, _, _, _, _, _, _, rfl, l___law_right, c___law_right⟩, c_law := c_law, P_law := P_law, lk_law := ⟨_, _, _, _, _, _, _, _, rfl, l__law, c__law⟩, pne := by simp [pn__law_right_law], aN := aN, m_Network := PySem.W.mg_of X G hN, kt := ⟨kt_of icN tyN sN_NoneType, kt_of icN tyN sN_bool, kt_of icN tyN sN_int, kt_of icN tyN sN_str, kt_of icN tyN sN_tuple, kt_of icN tyN sN_list, kt_of icN tyN sN_dict⟩ }
  refine ⟨_, [(c__law_right, P__law_right), (c_law, P_law)], SpD K (gLaw T), ?_, ?_, fun s v => .of_eq rfl, fun H a ns hl _ hH hS => ?_, fun base _ _ hTB => ok_law T (hTB (c_law, P_law) (by simp)) (hTB (c__law_right, P__law_right) (by simp))⟩
  · intro p hp
    simp only [List.mem_cons, List.not_mem_nil, or_false] at hp
    rcases hp with rfl | rfl
    · obtain ⟨d, hd⟩ := rec_of rf__law_right
      exact ⟨"_law_right", d, hd, tab_in a___law_right l___law_right rfl lc__law_right lp__law_right⟩
    · obtain ⟨d, hd⟩ := rec_of rf_law
      exact ⟨"law", d, hd, tab_in a__law l__law rfl lc_law lp_law⟩
  · intro p hp
    simp only [List.mem_cons, List.not_mem_nil, or_false] at hp
    rcases hp with rfl | rfl
    · exact np__law_right
    · exact np_law
  · obtain ⟨B, c, r⟩ := tabs_start (Ts := tabs T) (by simpa [tabs] using T.pne) (fun p hp => by
      simp only [tabs, List.mem_cons, List.not_mem_nil, or_false] at hp
      rcases hp with rfl | rfl
      · exact hH (c__law_right, P__law_right) (by simp)
      · exact hH (c_law, P_law) (by simp)) hS
    exact ⟨B, _, _, [.d (.scr ns)], .bl true, _, c, .cons r .nil, ⟨ns, rfl, hl, all_tabs, rfl, rfl⟩, fun v B' H' _ _ r => by cases r; rfl⟩
end N87
open PySem PySem.W PyProof.Rows
set_option maxRecDepth 100000 in
set_option maxHeartbeats 0 in
theorem PySem.Challenge.cw_rampworks_k87_errors_of_texts_holds : PySem.Challenge.rw_rampworks_k87_errors_of_texts.Holds := by
  w_on; o_law; k_head; (case hw => w_witness2)
  k_fill
  refine RW.walk_lam (k := 9) (n := 63) (x := "script") (l := PySem.Challenge.rw_rampworks_k87_errors_of_texts) rfl (by decide) rfl ⟨rfl, by decide, by decide⟩ (fun w h Y => PySem.W.km_in_of Y) ?F
  case F =>
    intro w mg fa h KX G hmg
    refine' N87.all_mk KX G hmg ?hCL ?c_MOST_INPUTS ?c_BEYOND ?c_BENEATH ?c_MOST_POINTS ?c_MOST_MEMBERS ?c_MOST_TEXT ?c_BLANKS ?c_HEAD ?n_InvalidLot ?n_InvalidReading ?n_InvalidNetwork ?n_InvalidText ?n_ParseError ?a__ParseErroru_initu ?i__ParseErroru_initu ?l__ParseErroru_initu ?c__ParseErroru_initu ?k__ParseErroru_initu ?a__are_short_rows ?l__are_short_rows ?c__are_short_rows ?k__are_short_rows ?a__are_ascending ?l__are_ascending ?c__are_ascending ?k__are_ascending ?a__is_lot ?l__is_lot ?c__is_lot ?k__is_lot ?a__need_lot ?l__need_lot ?c__need_lot ?k__need_lot ?a__need_network ?l__need_network ?c__need_network ?k__need_network ?a__is_reading ?l__is_reading ?c__is_reading ?k__is_reading ?a__need_reading ?l__need_reading ?c__need_reading ?k__need_reading ?a__row_line ?l__row_line ?c__row_line ?k__row_line ?a__text_of ?l__text_of ?c__text_of ?k__text_of ?a__lot_text ?l__lot_text ?c__lot_text ?k__lot_text ?a__reading_text ?l__reading_text ?c__reading_text ?k__reading_text ?a__network_text ?l__network_text ?c__network_text ?k__network_text ?a__Linesu_initu ?i__Linesu_initu ?l__Linesu_initu ?c__Linesu_initu ?k__Linesu_initu ?a__Lines_line ?i__Lines_line ?l__Lines_line ?c__Lines_line ?k__Lines_line ?a__Lines_word ?i__Lines_word ?l__Lines_word ?c__Lines_word ?k__Lines_word ?a__need_text ?l__need_text ?c__need_text ?k__need_text ?a__read_lot ?l__read_lot ?c__read_lot ?k__read_lot ?a__read_reading ?l__read_reading ?c__read_reading ?k__read_reading ?a__inputs_in ?l__inputs_in ?c__inputs_in ?k__inputs_in ?a__read_network ?l__read_network ?c__read_network ?k__read_network ?a___law_pack ?l___law_pack ?c___law_pack ?k___law_pack ?a___law_dealt ?l___law_dealt ?c___law_dealt ?k___law_dealt ?a___law_one_of ?l___law_one_of ?c___law_one_of ?k___law_one_of ?a___law_due ?l___law_due ?c___law_due ?k___law_due ?a___law_word ?l___law_word ?c___law_word ?k___law_word ?a___law_right ?l___law_right ?c___law_right ?k___law_right ?lc__law_right ?lp__law_right ?np__law_right ?rf__law_right ?a__law ?l__law ?c__law ?k__law ?lc_law ?lp_law ?np_law ?rf_law ?pn__law_right_law ?z_isinstance ?z_int ?z_bool ?z_tuple ?z_list ?z_len ?z_sum ?z_all ?z_any ?z_zip ?z_max ?z_min ?z_abs ?z_range ?z_enumerate ?z_reversed ?z_sorted ?z_str ?z_repr ?z_dict ?pgCL ?hdCL ?poCL ?saCL ?mkCL ?kcCL ?nCL_lines ?nCL_at ?k_InvalidLot ?be_InvalidLot ?ty_InvalidLot ?ic_InvalidLot ?x_InvalidLot ?k_InvalidReading ?be_InvalidReading ?ty_InvalidReading ?ic_InvalidReading ?x_InvalidReading ?k_InvalidNetwork ?be_InvalidNetwork ?ty_InvalidNetwork ?ic_InvalidNetwork ?x_InvalidNetwork ?k_InvalidText ?be_InvalidText ?ty_InvalidText ?ic_InvalidText ?x_InvalidText ?k_ParseError ?be_ParseError ?ty_ParseError ?ic_ParseError ?ol_ParseError ?os_ParseError ?ot_ParseError ?nf_ParseError ?ga_ParseError ?gg_ParseError ?hc_ParseError ?sb_InvalidLot_InvalidLot ?sb_InvalidLot_InvalidReading ?sb_InvalidLot_InvalidNetwork ?sb_InvalidLot_InvalidText ?sb_InvalidLot_ParseError ?sb_InvalidReading_InvalidLot ?sb_InvalidReading_InvalidReading ?sb_InvalidReading_InvalidNetwork ?sb_InvalidReading_InvalidText ?sb_InvalidReading_ParseError ?sb_InvalidNetwork_InvalidLot ?sb_InvalidNetwork_InvalidReading ?sb_InvalidNetwork_InvalidNetwork ?sb_InvalidNetwork_InvalidText ?sb_InvalidNetwork_ParseError ?sb_InvalidText_InvalidLot ?sb_InvalidText_InvalidReading ?sb_InvalidText_InvalidNetwork ?sb_InvalidText_InvalidText ?sb_InvalidText_ParseError ?sb_ParseError_InvalidLot ?sb_ParseError_InvalidReading ?sb_ParseError_InvalidNetwork ?sb_ParseError_InvalidText ?sb_ParseError_ParseError ?hN ?icN ?tyN ?sN_NoneType ?sN_bool ?sN_int ?sN_str ?sN_tuple ?sN_list ?sN_dict
    (case hCL => k_is)
    (case c_MOST_INPUTS => k_is)
    (case c_BEYOND => k_is)
    (case c_BENEATH => k_is)
    (case c_MOST_POINTS => k_is)
    (case c_MOST_MEMBERS => k_is)
    (case c_MOST_TEXT => k_is)
    (case c_BLANKS => k_is)
    (case c_HEAD => k_is)
    (case n_InvalidLot => k_is)
    (case n_InvalidReading => k_is)
    (case n_InvalidNetwork => k_is)
    (case n_InvalidText => k_is)
    (case n_ParseError => k_is)
    (case a__ParseErroru_initu => k_is)
    (case i__ParseErroru_initu => k_is)
    (case l__ParseErroru_initu => k_is)
    (case c__ParseErroru_initu => k_is)
    (case k__ParseErroru_initu => k_is)
    (case a__are_short_rows => k_is)
    (case l__are_short_rows => k_is)
    (case c__are_short_rows => k_is)
    (case k__are_short_rows => k_is)
    (case a__are_ascending => k_is)
    (case l__are_ascending => k_is)
    (case c__are_ascending => k_is)
    (case k__are_ascending => k_is)
    (case a__is_lot => k_is)
    (case l__is_lot => k_is)
    (case c__is_lot => k_is)
    (case k__is_lot => k_is)
    (case a__need_lot => k_is)
    (case l__need_lot => k_is)
    (case c__need_lot => k_is)
    (case k__need_lot => k_is)
    (case a__need_network => k_is)
    (case l__need_network => k_is)
    (case c__need_network => k_is)
    (case k__need_network => k_is)
    (case a__is_reading => k_is)
    (case l__is_reading => k_is)
    (case c__is_reading => k_is)
    (case k__is_reading => k_is)
    (case a__need_reading => k_is)
    (case l__need_reading => k_is)
    (case c__need_reading => k_is)
    (case k__need_reading => k_is)
    (case a__row_line => k_is)
    (case l__row_line => k_is)
    (case c__row_line => k_is)
    (case k__row_line => k_is)
    (case a__text_of => k_is)
    (case l__text_of => k_is)
    (case c__text_of => k_is)
    (case k__text_of => k_is)
    (case a__lot_text => k_is)
    (case l__lot_text => k_is)
    (case c__lot_text => k_is)
    (case k__lot_text => k_is)
    (case a__reading_text => k_is)
    (case l__reading_text => k_is)
    (case c__reading_text => k_is)
    (case k__reading_text => k_is)
    (case a__network_text => k_is)
    (case l__network_text => k_is)
    (case c__network_text => k_is)
    (case k__network_text => k_is)
    (case a__Linesu_initu => k_is)
    (case i__Linesu_initu => k_is)
    (case l__Linesu_initu => k_is)
    (case c__Linesu_initu => k_is)
    (case k__Linesu_initu => k_is)
    (case a__Lines_line => k_is)
    (case i__Lines_line => k_is)
    (case l__Lines_line => k_is)
    (case c__Lines_line => k_is)
    (case k__Lines_line => k_is)
    (case a__Lines_word => k_is)
    (case i__Lines_word => k_is)
    (case l__Lines_word => k_is)
    (case c__Lines_word => k_is)
    (case k__Lines_word => k_is)
    (case a__need_text => k_is)
    (case l__need_text => k_is)
    (case c__need_text => k_is)
    (case k__need_text => k_is)
    (case a__read_lot => k_is)
    (case l__read_lot => k_is)
    (case c__read_lot => k_is)
    (case k__read_lot => k_is)
    (case a__read_reading => k_is)
    (case l__read_reading => k_is)
    (case c__read_reading => k_is)
    (case k__read_reading => k_is)
    (case a__inputs_in => k_is)
    (case l__inputs_in => k_is)
    (case c__inputs_in => k_is)
    (case k__inputs_in => k_is)
    (case a__read_network => k_is)
    (case l__read_network => k_is)
    (case c__read_network => k_is)
    (case k__read_network => k_is)
    (case a___law_pack => k_is)
    (case l___law_pack => k_is)
    (case c___law_pack => k_is)
    (case k___law_pack => k_is)
    (case a___law_dealt => k_is)
    (case l___law_dealt => k_is)
    (case c___law_dealt => k_is)
    (case k___law_dealt => k_is)
    (case a___law_one_of => k_is)
    (case l___law_one_of => k_is)
    (case c___law_one_of => k_is)
    (case k___law_one_of => k_is)
    (case a___law_due => k_is)
    (case l___law_due => k_is)
    (case c___law_due => k_is)
    (case k___law_due => k_is)
    (case a___law_word => k_is)
    (case l___law_word => k_is)
    (case c___law_word => k_is)
    (case k___law_word => k_is)
    (case a___law_right => k_is)
    (case l___law_right => k_is)
    (case c___law_right => k_is)
    (case k___law_right => k_is)
    (case lc__law_right => k_is)
    (case lp__law_right => rfl)
    (case np__law_right => kernel_rfl)
    (case rf__law_right => decide +kernel)
    (case a__law => k_is)
    (case l__law => k_is)
    (case c__law => k_is)
    (case k__law => k_is)
    (case lc_law => k_is)
    (case lp_law => rfl)
    (case np_law => kernel_rfl)
    (case rf_law => decide +kernel)
    (case pn__law_right_law => decide)
    (case z_isinstance => k_is)
    (case z_int => k_is)
    (case z_bool => k_is)
    (case z_tuple => k_is)
    (case z_list => k_is)
    (case z_len => k_is)
    (case z_sum => k_is)
    (case z_all => k_is)
    (case z_any => k_is)
    (case z_zip => k_is)
    (case z_max => k_is)
    (case z_min => k_is)
    (case z_abs => k_is)
    (case z_range => k_is)
    (case z_enumerate => k_is)
    (case z_reversed => k_is)
    (case z_sorted => k_is)
    (case z_str => k_is)
    (case z_repr => k_is)
    (case z_dict => k_is)
    (case pgCL => k_is)
    (case hdCL => k_is)
    (case poCL => k_is)
    (case saCL => k_is)
    (case mkCL => k_is)
    (case kcCL => k_is)
    (case nCL_lines => k_is)
    (case nCL_at => k_is)
    (case k_InvalidLot => k_is)
    (case be_InvalidLot => k_is)
    (case ty_InvalidLot => k_is)
    (case ic_InvalidLot => k_is)
    (case x_InvalidLot => k_exc)
    (case k_InvalidReading => k_is)
    (case be_InvalidReading => k_is)
    (case ty_InvalidReading => k_is)
    (case ic_InvalidReading => k_is)
    (case x_InvalidReading => k_exc)
    (case k_InvalidNetwork => k_is)
    (case be_InvalidNetwork => k_is)
    (case ty_InvalidNetwork => k_is)
    (case ic_InvalidNetwork => k_is)
    (case x_InvalidNetwork => k_exc)
    (case k_InvalidText => k_is)
    (case be_InvalidText => k_is)
    (case ty_InvalidText => k_is)
    (case ic_InvalidText => k_is)
    (case x_InvalidText => k_exc)
    (case k_ParseError => k_is)
    (case be_ParseError => k_is)
    (case ty_ParseError => k_is)
    (case ic_ParseError => k_is)
    (case ol_ParseError => exact ⟨_, _, _, _, _, _, _, _, _, _, _, _, _, _, _, by k_is, by decide +kernel⟩)
    (case os_ParseError => k_is)
    (case ot_ParseError => k_is)
    (case nf_ParseError => k_is)
    (case ga_ParseError => k_is)
    (case gg_ParseError => k_is)
    (case hc_ParseError => k_is)
    (case sb_InvalidLot_InvalidLot => k_is)
    (case sb_InvalidLot_InvalidReading => k_is)
    (case sb_InvalidLot_InvalidNetwork => k_is)
    (case sb_InvalidLot_InvalidText => k_is)
    (case sb_InvalidLot_ParseError => k_is)
    (case sb_InvalidReading_InvalidLot => k_is)
    (case sb_InvalidReading_InvalidReading => k_is)
    (case sb_InvalidReading_InvalidNetwork => k_is)
    (case sb_InvalidReading_InvalidText => k_is)
    (case sb_InvalidReading_ParseError => k_is)
    (case sb_InvalidNetwork_InvalidLot => k_is)
    (case sb_InvalidNetwork_InvalidReading => k_is)
    (case sb_InvalidNetwork_InvalidNetwork => k_is)
    (case sb_InvalidNetwork_InvalidText => k_is)
    (case sb_InvalidNetwork_ParseError => k_is)
    (case sb_InvalidText_InvalidLot => k_is)
    (case sb_InvalidText_InvalidReading => k_is)
    (case sb_InvalidText_InvalidNetwork => k_is)
    (case sb_InvalidText_InvalidText => k_is)
    (case sb_InvalidText_ParseError => k_is)
    (case sb_ParseError_InvalidLot => k_is)
    (case sb_ParseError_InvalidReading => k_is)
    (case sb_ParseError_InvalidNetwork => k_is)
    (case sb_ParseError_InvalidText => k_is)
    (case sb_ParseError_ParseError => k_is)
    (case hN => k_is)
    (case icN => k_is)
    (case tyN => k_is)
    (case sN_NoneType => k_is)
    (case sN_bool => k_is)
    (case sN_int => k_is)
    (case sN_str => k_is)
    (case sN_tuple => k_is)
    (case sN_list => k_is)
    (case sN_dict => k_is)

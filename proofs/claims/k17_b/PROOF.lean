import PyProof.Rows.All
import Wide.All
import OpenK.AllK
import Wide.FinOn
import HandS.ForMost
import HandS.Walk
import HandS.IsInst
import HandS.Wide
import HandS.EndBits
import KE.GoesNew
import KE.GoesMore
import HandS.Defaults
import HandS.MakeKwOnly
import HandS.Codes
import HandS.Gcd
import HandS.Star
import HandS.Deep
import HandS.TupMul
import HandS.TupAny
import HandS.Style
import HandS.TupSets
import HandS.Strs
import KE.GoesEnum
import HandS.RevRange
import PySem.Challenge.RW_calledseats_k17_whole_one_target
set_option Elab.async false
set_option linter.all false
set_option maxRecDepth 100000
set_option maxHeartbeats 4000000
namespace Cs
open PySem PySem.Spec PyProof.Rows L2

/-! ### a list or a tuple -/
def Sqk (K : PySem.W.Frag) (k : Bool) (H : Hp) (a : Addr) (xs : List V) : Prop := match k with
  | true => SqL K H a xs
  | false => SqT K H a xs
def SeqK (k : Bool) (h : Heap) (a : Addr) (its : Array Value) : Prop := match k with
  | true => h.IsList a its
  | false => h.IsTuple a its
def ItK (k : Bool) (h : Heap) (it a : Addr) (i : Nat) : Prop := match k with
  | true => h.IsListIter it a i
  | false => h.IsTupleIter it a i
def itO (k : Bool) (a : Addr) : Obj := match k with
  | true => { cls := .type "list_iterator", data := .fields #[.ref a, .int 0 0] }
  | false => { cls := .type "tuple_iterator", data := .fields #[.ref a, .int 0 0] }
theorem ItK.at {k : Bool} {h h' : Heap} {it a : Addr} {i : Nat} (x : ItK k h it a i) (q : ∀ o, h.get? it = some o → h'.get? it = some o) : ItK k h' it a i := by
  cases k with
  | true => exact PySem.Heap.IsListIter.at x q
  | false => exact PySem.Heap.IsTupleIter.at x q
theorem ItK.obj {k : Bool} {h : Heap} {it a : Addr} {i : Nat} (x : ItK k h it a i) : ∃ o, h.get? it = some o ∧ ∀ v, o.data ≠ .cell v := by
  cases k with
  | true => obtain ⟨o, e, _, d⟩ := x; exact ⟨o, e, fun v q => by rw [d] at q; cases q⟩
  | false => obtain ⟨o, e, _, d⟩ := x; exact ⟨o, e, fun v q => by rw [d] at q; cases q⟩
theorem ItK.new {k : Bool} {h : Heap} {it a : Addr} (e : h.get? it = some (itO k a)) : ItK k h it a 0 := by
  cases k with
  | true => exact ⟨_, e, rfl, rfl⟩
  | false => exact ⟨_, e, rfl, rfl⟩
theorem drawsK {prog : Program} {w : World} {A : Around} (hh : A.handled = none) (k : Bool) (it l : Addr) (hne : l ≠ it) (items : Array Value) :
    Draws prog w A it [it, l] items.size (fun i v => items[i]? = some v) (fun i h => ItK k h it l i ∧ SeqK k h l items) := by
  cases k with
  | true => exact Draws.list hh it l hne items
  | false => exact Draws.tuple hh it l hne items
theorem begK (k : Bool) (a : Addr) (its : Array Value) : Begins (.ref a) (itO k a) fun h => SeqK k h a its := by
  cases k with
  | true => exact begins_list a its
  | false => exact begins_tuple a its
section
variable {X : Cx} {pins : List (Addr × Obj)} {σ : L2.St} {H : Hp} {s : Shared} {k : Bool} {a : Addr} {xs ys : List V}
theorem invK (I : Inv X pins σ H s) (h : Sqk X.K k H a xs) : ∃ its : List Value, Vals xs its ∧ SeqK k s.heap a its.toArray := by
  cases k with
  | true => obtain ⟨its, rv, p, _⟩ := I.list h; exact ⟨its, rv, p.isList⟩
  | false => obtain ⟨its, rv, p, _⟩ := I.tuple h; exact ⟨its, rv, p⟩
theorem injK (I : Inv X pins σ H s) (h : Sqk X.K k H a xs) (h' : Sqk X.K k H a ys) : xs = ys := by
  cases k with
  | true => exact I.list_inj h h'
  | false => exact I.tuple_inj h h'
theorem SeqK.lt {h : Heap} {its : Array Value} (x : SeqK k h a its) : a < h.objs.size := by
  cases k with
  | true => obtain ⟨o, e, _⟩ := x; exact Heap.lt_size e
  | false => obtain ⟨o, e, _⟩ := x; exact Heap.lt_size e
end
theorem Sqk.same {K : PySem.W.Frag} {k : Bool} {H H' : Hp} {a : Addr} {xs : List V} (e : Same H H') (h : Sqk K k H a xs) : Sqk K k H' a xs := by
  cases k with
  | true => exact e.seq h
  | false =>
    rcases h with (h | ⟨o, h⟩) | h
    · exact .inl (.inl (e _ _ h))
    · exact .inl (.inr ⟨o, e _ _ h⟩)
    · exact .inr h

/-! ### for a, b in zip(x, y), x and y lists or tuples -/
def Iz2 (K : PySem.W.Frag) (k1 k2 : Bool) (a b : Addr) : It :=
  ⟨fun i H => ∃ (xs ys : List V) (x y : V), Sqk K k1 H a xs ∧ Sqk K k2 H b ys ∧ xs[i]? = some x ∧ ys[i]? = some y,
    fun i H v H' => ∃ T x y, v = .ref T ∧ H T = none ∧ H' = upd H T (.tup [x, y]) ∧ (∀ xs, Sqk K k1 H a xs → xs[i]? = some x) ∧ ∀ ys, Sqk K k2 H b ys → ys[i]? = some y,
    fun i H => ∃ xs ys : List V, Sqk K k1 H a xs ∧ Sqk K k2 H b ys ∧ xs.length = ys.length ∧ xs.length = i⟩
def Iz3 (K : PySem.W.Frag) (k1 k2 k3 : Bool) (a b c : Addr) : It :=
  ⟨fun i H => ∃ (xs ys zs : List V) (x y z : V), Sqk K k1 H a xs ∧ Sqk K k2 H b ys ∧ Sqk K k3 H c zs ∧ xs[i]? = some x ∧ ys[i]? = some y ∧ zs[i]? = some z,
    fun i H v H' => ∃ T x y z, v = .ref T ∧ H T = none ∧ H' = upd H T (.tup [x, y, z]) ∧ (∀ xs, Sqk K k1 H a xs → xs[i]? = some x) ∧ (∀ ys, Sqk K k2 H b ys → ys[i]? = some y) ∧ ∀ zs, Sqk K k3 H c zs → zs[i]? = some z,
    fun i H => ∃ xs ys zs : List V, Sqk K k1 H a xs ∧ Sqk K k2 H b ys ∧ Sqk K k3 H c zs ∧ xs.length = ys.length ∧ ys.length = zs.length ∧ xs.length = i⟩

theorem turn_z2 {P : Program} {w : World} {K : PySem.W.Frag} {elts : List Expr} {kk : Nat} {tpos : Pos} {k1 k2 : Bool} {a b z TI TO i1 i2 : Addr} (S : ZipSep2 z TI TO i1 i2 [i1, a] [i2, b]) (n1 : a ≠ i1) (n2 : b ≠ i2) :
    Turn P w K (.Tuple elts kk tpos) (Iz2 K k1 k2 a b) [z, TI, TO, i1, i2] z (fun i h => IsZip h z TI TO .none ∧ IsTupOf2 h TI (.ref i1) (.ref i2) ∧ (∃ x y, IsTupOf2 h TO x y) ∧ ItK k1 h i1 a i ∧ ItK k2 h i2 b i) where
  mem := by simp
  obj := fun i h st c hc => by
    obtain ⟨hz, hTI, ⟨x, y, hTO⟩, h1, h2⟩ := st
    have e' : c = z ∨ c = TI ∨ c = TO ∨ c = i1 ∨ c = i2 := by simpa using hc
    rcases e' with q | q | q | q | q
    · rw [q]; exact ⟨_, hz, fun v q => nomatch q⟩
    · rw [q]; exact ⟨_, hTI, fun v q => nomatch q⟩
    · rw [q]; exact ⟨_, hTO, fun v q => nomatch q⟩
    · rw [q]; exact h1.obj
    · rw [q]; exact h2.obj
  keep := fun i h h' st k => by
    obtain ⟨hz, hTI, ⟨x, y, hTO⟩, h1, h2⟩ := st
    exact ⟨k z (by simp) _ hz, k TI (by simp) _ hTI, ⟨x, y, k TO (by simp) _ hTO⟩, h1.at fun o q => k i1 (by simp) o q, h2.at fun o q => k i2 (by simp) o q⟩
  item := by
    intro X hP hw hK hc i pins s σ H E I hf st hg
    subst hP hw hK
    obtain ⟨xs, ys, x, y, hqx, hqy, hx, hy⟩ := hg
    obtain ⟨its, rv, p⟩ := invK I hqx
    obtain ⟨its2, rv2, p2⟩ := invK I hqy
    obtain ⟨u, hu, ru⟩ := rv.get hx
    obtain ⟨u2, hu2, ru2⟩ := rv2.get hy
    have hh : X.A.handled = none := I.ok.hd hc
    have D1 := drawsK (prog := X.prog) (w := X.w) (A := X.A.in1) hh k1 i1 a n1 its.toArray
    have D2 := drawsK (prog := X.prog) (w := X.w) (A := X.A.in1) hh k2 i2 b n2 its2.toArray
    have l1 : i < its.length := (List.getElem?_eq_some_iff.mp hu).1
    have l2 : i < its2.length := (List.getElem?_eq_some_iff.mp hu2).1
    have W := GoesN.zip2 (elts := elts) (x1 := kk) (pos := tpos) S D1 D2
    refine W.goes i s (fun v s2 => ∃ x H', Inv X pins σ H' s2 ∧ RelV x v ∧ (Iz2 X.K k1 k2 a b).yld i H x H' ∧ (IsZip s2.heap z TI TO .none ∧ IsTupOf2 s2.heap TI (.ref i1) (.ref i2) ∧ (∃ x y, IsTupOf2 s2.heap TO x y) ∧ ItK k1 s2.heap i1 a (i + 1) ∧ ItK k2 s2.heap i2 b (i + 1)) ∧ ∀ b ∈ [z, TI, TO, i1, i2], H' b = none) E (by simp only [List.size_toArray]; omega) ⟨st.1, st.2.1, st.2.2.1, ⟨st.2.2.2.1, p⟩, st.2.2.2.2, p2⟩ fun v h' tk hY st' hk htk => ?_
    obtain ⟨T, v1, v2, rfl, hT, e1, e2, hTu⟩ := hY
    have q1 : v1 = u := by
      have e1' : its[i]? = some v1 := by simpa using e1
      rw [hu] at e1'; exact (Option.some.inj e1').symm
    have q2 : v2 = u2 := by
      have e2' : its2[i]? = some v2 := by simpa using e2
      rw [hu2] at e2'; exact (Option.some.inj e2').symm
    subst q1 q2
    have new : ObjOk X.prog X.w (upd H T (.tup [x, y])) h' T (.tup [x, y]) :=
      ⟨by show 2 ≤ sizeLine; decide, [v1, v2], .cons ru (.cons ru2 .nil), hTu⟩
    have I1 : Inv X pins σ (upd H T (.tup [x, y])) { s with heap := h', toks := tk } :=
      I.turnedNew (t' := tk) (ch := [z, TI, TO, i1, i2]) (fun c o hb q => hk c o (fun hm => hb (by
        simp only [List.mem_cons, List.mem_nil_iff, or_false] at hm ⊢
        rcases hm with q | q | q | q <;> simp [q])) q) hf hT new
    refine ⟨.ref T, _, I1, rfl, ⟨T, x, y, rfl, I.hok.fresh hT, rfl, fun l hl => by rw [injK I hl hqx]; exact hx, fun l hl => by rw [injK I hl hqy]; exact hy⟩, ⟨st'.1, st'.2.1, st'.2.2.1, st'.2.2.2.1.1, st'.2.2.2.2.1⟩, fun c hcm => ?_⟩
    have hlt : c < s.heap.objs.size := by
      obtain ⟨hz, hTI, ⟨x0, y0, hTO⟩, h1, h2⟩ := st
      have e' : c = z ∨ c = TI ∨ c = TO ∨ c = i1 ∨ c = i2 := by simpa using hcm
      rcases e' with q | q | q | q | q
      · rw [q]; exact Heap.lt_size hz
      · rw [q]; exact Heap.lt_size hTI
      · rw [q]; exact Heap.lt_size hTO
      · rw [q]; obtain ⟨_, e1, _⟩ := h1.obj; exact Heap.lt_size e1
      · rw [q]; obtain ⟨_, e2, _⟩ := h2.obj; exact Heap.lt_size e2
    rw [upd_ne (Nat.ne_of_lt (Nat.lt_of_lt_of_le hlt hT))]
    exact (hf c hcm).1
  done := by
    intro X hP hw hK hc i pins s σ H E I hf st hg
    subst hP hw hK
    obtain ⟨xs, ys, hqx, hqy, hl, hi⟩ := hg
    obtain ⟨its, rv, p⟩ := invK I hqx
    obtain ⟨its2, rv2, p2⟩ := invK I hqy
    have hh : X.A.handled = none := I.ok.hd hc
    have D1 := drawsK (prog := X.prog) (w := X.w) (A := X.A.in1) hh k1 i1 a n1 its.toArray
    have D2 := drawsK (prog := X.prog) (w := X.w) (A := X.A.in1) hh k2 i2 b n2 its2.toArray
    have W := GoesN.zip2 (elts := elts) (x1 := kk) (pos := tpos) S D1 D2
    have l1 := rv.length
    have l2 := rv2.length
    have en : min its.toArray.size its2.toArray.size = i := by simp only [List.size_toArray]; omega
    have st2 : (IsZip s.heap z TI TO .none ∧ IsTupOf2 s.heap TI (.ref i1) (.ref i2) ∧ (∃ a1 a2, IsTupOf2 s.heap TO a1 a2) ∧ (ItK k1 s.heap i1 a (min its.toArray.size its2.toArray.size) ∧ SeqK k1 s.heap a its.toArray) ∧ ItK k2 s.heap i2 b (min its.toArray.size its2.toArray.size) ∧ SeqK k2 s.heap b its2.toArray) := by
      rw [en]
      exact ⟨st.1, st.2.1, st.2.2.1, ⟨st.2.2.2.1, p⟩, st.2.2.2.2, p2⟩
    refine W.stops s (fun s1 => Inv X pins σ H s1) E st2 fun h' tk hk htk => ?_
    exact I.turnedL (t' := tk) (ch := [z, TI, TO, i1, i2]) (fun c o hb q => hk c o (fun hm => hb (by
        simp only [List.mem_cons, List.mem_nil_iff, or_false] at hm ⊢
        rcases hm with q | q | q | q <;> simp [q])) q) hf
  self := fun A i s Q E st h => wpAny_pyIter_zip st.1 h

theorem turn_z3 {P : Program} {w : World} {K : PySem.W.Frag} {elts : List Expr} {kk : Nat} {tpos : Pos} {k1 k2 k3 : Bool} {a b c z TI TO i1 i2 i3 : Addr} (S : ZipSep3 z TI TO i1 i2 i3 [i1, a] [i2, b] [i3, c]) (n1 : a ≠ i1) (n2 : b ≠ i2) (n3 : c ≠ i3) :
    Turn P w K (.Tuple elts kk tpos) (Iz3 K k1 k2 k3 a b c) [z, TI, TO, i1, i2, i3] z (fun i h => IsZip h z TI TO .none ∧ IsTupOf3 h TI (.ref i1) (.ref i2) (.ref i3) ∧ (∃ x y v, IsTupOf3 h TO x y v) ∧ ItK k1 h i1 a i ∧ ItK k2 h i2 b i ∧ ItK k3 h i3 c i) where
  mem := by simp
  obj := fun i h st c hc => by
    obtain ⟨hz, hTI, ⟨x, y, v, hTO⟩, h1, h2, h3⟩ := st
    have e' : c = z ∨ c = TI ∨ c = TO ∨ c = i1 ∨ c = i2 ∨ c = i3 := by simpa using hc
    rcases e' with q | q | q | q | q | q
    · rw [q]; exact ⟨_, hz, fun v q => nomatch q⟩
    · rw [q]; exact ⟨_, hTI, fun v q => nomatch q⟩
    · rw [q]; exact ⟨_, hTO, fun v q => nomatch q⟩
    · rw [q]; exact h1.obj
    · rw [q]; exact h2.obj
    · rw [q]; exact h3.obj
  keep := fun i h h' st k => by
    obtain ⟨hz, hTI, ⟨x, y, v, hTO⟩, h1, h2, h3⟩ := st
    exact ⟨k z (by simp) _ hz, k TI (by simp) _ hTI, ⟨x, y, v, k TO (by simp) _ hTO⟩, h1.at fun o q => k i1 (by simp) o q, h2.at fun o q => k i2 (by simp) o q, h3.at fun o q => k i3 (by simp) o q⟩
  item := by
    intro X hP hw hK hc i pins s σ H E I hf st hg
    subst hP hw hK
    obtain ⟨xs, ys, zs, x, y, v, hqx, hqy, hqz, hx, hy, hz⟩ := hg
    obtain ⟨its, rv, p⟩ := invK I hqx
    obtain ⟨its2, rv2, p2⟩ := invK I hqy
    obtain ⟨its3, rv3, p3⟩ := invK I hqz
    obtain ⟨u, hu, ru⟩ := rv.get hx
    obtain ⟨u2, hu2, ru2⟩ := rv2.get hy
    obtain ⟨u3, hu3, ru3⟩ := rv3.get hz
    have hh : X.A.handled = none := I.ok.hd hc
    have D1 := drawsK (prog := X.prog) (w := X.w) (A := X.A.in1) hh k1 i1 a n1 its.toArray
    have D2 := drawsK (prog := X.prog) (w := X.w) (A := X.A.in1) hh k2 i2 b n2 its2.toArray
    have D3 := drawsK (prog := X.prog) (w := X.w) (A := X.A.in1) hh k3 i3 c n3 its3.toArray
    have l1 : i < its.length := (List.getElem?_eq_some_iff.mp hu).1
    have l2 : i < its2.length := (List.getElem?_eq_some_iff.mp hu2).1
    have l3 : i < its3.length := (List.getElem?_eq_some_iff.mp hu3).1
    have W := GoesN.zip3 (elts := elts) (x1 := kk) (pos := tpos) S D1 D2 D3
    refine W.goes i s (fun v s2 => ∃ x H', Inv X pins σ H' s2 ∧ RelV x v ∧ (Iz3 X.K k1 k2 k3 a b c).yld i H x H' ∧ (IsZip s2.heap z TI TO .none ∧ IsTupOf3 s2.heap TI (.ref i1) (.ref i2) (.ref i3) ∧ (∃ x y v, IsTupOf3 s2.heap TO x y v) ∧ ItK k1 s2.heap i1 a (i + 1) ∧ ItK k2 s2.heap i2 b (i + 1) ∧ ItK k3 s2.heap i3 c (i + 1)) ∧ ∀ b ∈ [z, TI, TO, i1, i2, i3], H' b = none) E (by simp only [List.size_toArray]; omega) ⟨st.1, st.2.1, st.2.2.1, ⟨st.2.2.2.1, p⟩, ⟨st.2.2.2.2.1, p2⟩, st.2.2.2.2.2, p3⟩ fun v h' tk hY st' hk htk => ?_
    obtain ⟨T, v1, v2, v3, rfl, hT, e1, e2, e3, hTu⟩ := hY
    have q1 : v1 = u := by
      have e1' : its[i]? = some v1 := by simpa using e1
      rw [hu] at e1'; exact (Option.some.inj e1').symm
    have q2 : v2 = u2 := by
      have e2' : its2[i]? = some v2 := by simpa using e2
      rw [hu2] at e2'; exact (Option.some.inj e2').symm
    have q3 : v3 = u3 := by
      have e3' : its3[i]? = some v3 := by simpa using e3
      rw [hu3] at e3'; exact (Option.some.inj e3').symm
    subst q1 q2 q3
    have new : ObjOk X.prog X.w (upd H T (.tup [x, y, v])) h' T (.tup [x, y, v]) :=
      ⟨by show 3 ≤ sizeLine; decide, [v1, v2, v3], .cons ru (.cons ru2 (.cons ru3 .nil)), hTu⟩
    have I1 : Inv X pins σ (upd H T (.tup [x, y, v])) { s with heap := h', toks := tk } :=
      I.turnedNew (t' := tk) (ch := [z, TI, TO, i1, i2, i3]) (fun c o hb q => hk c o (fun hm => hb (by
        simp only [List.mem_cons, List.mem_nil_iff, or_false] at hm ⊢
        rcases hm with q | q | q | q | q <;> simp [q])) q) hf hT new
    refine ⟨.ref T, _, I1, rfl, ⟨T, x, y, v, rfl, I.hok.fresh hT, rfl, fun l hl => by rw [injK I hl hqx]; exact hx, fun l hl => by rw [injK I hl hqy]; exact hy, fun l hl => by rw [injK I hl hqz]; exact hz⟩, ⟨st'.1, st'.2.1, st'.2.2.1, st'.2.2.2.1.1, st'.2.2.2.2.1.1, st'.2.2.2.2.2.1⟩, fun c hcm => ?_⟩
    have hlt : c < s.heap.objs.size := by
      obtain ⟨hz, hTI, ⟨x0, y0, v0, hTO⟩, h1, h2, h3⟩ := st
      have e' : c = z ∨ c = TI ∨ c = TO ∨ c = i1 ∨ c = i2 ∨ c = i3 := by simpa using hcm
      rcases e' with q | q | q | q | q | q
      · rw [q]; exact Heap.lt_size hz
      · rw [q]; exact Heap.lt_size hTI
      · rw [q]; exact Heap.lt_size hTO
      · rw [q]; obtain ⟨_, e1, _⟩ := h1.obj; exact Heap.lt_size e1
      · rw [q]; obtain ⟨_, e2, _⟩ := h2.obj; exact Heap.lt_size e2
      · rw [q]; obtain ⟨_, e2, _⟩ := h3.obj; exact Heap.lt_size e2
    rw [upd_ne (Nat.ne_of_lt (Nat.lt_of_lt_of_le hlt hT))]
    exact (hf c hcm).1
  done := by
    intro X hP hw hK hc i pins s σ H E I hf st hg
    subst hP hw hK
    obtain ⟨xs, ys, zs, hqx, hqy, hqz, hl, hl2, hi⟩ := hg
    obtain ⟨its, rv, p⟩ := invK I hqx
    obtain ⟨its2, rv2, p2⟩ := invK I hqy
    obtain ⟨its3, rv3, p3⟩ := invK I hqz
    have hh : X.A.handled = none := I.ok.hd hc
    have D1 := drawsK (prog := X.prog) (w := X.w) (A := X.A.in1) hh k1 i1 a n1 its.toArray
    have D2 := drawsK (prog := X.prog) (w := X.w) (A := X.A.in1) hh k2 i2 b n2 its2.toArray
    have D3 := drawsK (prog := X.prog) (w := X.w) (A := X.A.in1) hh k3 i3 c n3 its3.toArray
    have W := GoesN.zip3 (elts := elts) (x1 := kk) (pos := tpos) S D1 D2 D3
    have l1 := rv.length
    have l2 := rv2.length
    have l3 := rv3.length
    have en : min (min its.toArray.size its2.toArray.size) its3.toArray.size = i := by simp only [List.size_toArray]; omega
    have st2 : (fun i h => IsZip h z TI TO .none ∧ IsTupOf3 h TI (.ref i1) (.ref i2) (.ref i3) ∧ (∃ a1 a2 a3, IsTupOf3 h TO a1 a2 a3) ∧ (ItK k1 h i1 a i ∧ SeqK k1 h a its.toArray) ∧ (ItK k2 h i2 b i ∧ SeqK k2 h b its2.toArray) ∧ ItK k3 h i3 c i ∧ SeqK k3 h c its3.toArray) (min (min its.toArray.size its2.toArray.size) its3.toArray.size) s.heap := by
      rw [en]
      exact ⟨st.1, st.2.1, st.2.2.1, ⟨st.2.2.2.1, p⟩, ⟨st.2.2.2.2.1, p2⟩, st.2.2.2.2.2, p3⟩
    refine W.stops s (fun s1 => Inv X pins σ H s1) E st2 fun h' tk hk htk => ?_
    exact I.turnedL (t' := tk) (ch := [z, TI, TO, i1, i2, i3]) (fun c o hb q => hk c o (fun hm => hb (by
        simp only [List.mem_cons, List.mem_nil_iff, or_false] at hm ⊢
        rcases hm with q | q | q | q | q <;> simp [q])) q) hf
  self := fun A i s Q E st h => wpAny_pyIter_zip st.1 h

/-! ### the walks -/
def iSeq (K : PySem.W.Frag) (tl : TE) : TI := fun σ H R => tl σ H fun x H1 => ∃ (k : Bool) (a : Addr) (xs : List V), x = .ref a ∧ Sqk K k H1 a xs ∧ R (match k with | true => Itl K a | false => Itt K a) H1
theorem pi_seq {X : Cx} {tg l : Expr} {tl : TE} (hl : PE X l tl) : PI X tg l (iSeq X.K tl) := by
  refine ⟨fun pins s σ H R I h => ?_⟩
  refine thn (hl.run pins s σ H _ I h) fun v s1 ⟨x, H1, I1, r1, q1⟩ => ?_
  obtain ⟨k, a, xs, e, hq, q⟩ := q1
  subst e
  cases r1
  cases k with
  | true =>
    obtain ⟨its, rv, p, hz⟩ := I1.list hq
    refine wpAny_pyIter_list p.isList ?_
    refine ⟨s1.heap.objs.size, [s1.heap.objs.size], _, _, H1, rfl, I1.kept (t' := s1.toks) fun b o e => Heap.get?_push_of_some _ e, turn_list a _, ⟨_, Heap.get?_push_size _ rfl, rfl, rfl⟩, fun b hb => ?_, q⟩
    have e : b = s1.heap.objs.size := by simpa using hb
    subst e
    exact I1.fpOk (Nat.le_refl _) (I1.hok.fresh (Nat.le_refl _))
  | false =>
    obtain ⟨its, rv, p, hz⟩ := I1.tuple hq
    refine wpAny_pyIter_tuple (show s1.heap.IsTuple a its.toArray from p) ?_
    refine ⟨s1.heap.objs.size, [s1.heap.objs.size], _, _, H1, rfl, I1.kept (t' := s1.toks) fun b o e => Heap.get?_push_of_some _ e, turn_tuple a _, ⟨_, Heap.get?_push_size _ rfl, rfl, rfl⟩, fun b hb => ?_, q⟩
    have e : b = s1.heap.objs.size := by simpa using hb
    subst e
    exact I1.fpOk (Nat.le_refl _) (I1.hok.fresh (Nat.le_refl _))
theorem walk_seq {K : PySem.W.Frag} {k : Bool} {a : Addr} {xs : List V} : Walk (match k with | true => Itl K a | false => Itt K a) xs.length (fun H => Sqk K k H a xs) (YAt xs) := by
  cases k with
  | true => exact walk_list
  | false => exact walk_tup
def iZ2 (K : PySem.W.Frag) (ta : TA) : TI := fun σ H R => ta σ H fun vs H1 => ∃ (k1 k2 : Bool) (a b : Addr) (xs ys : List V), vs = [.ref a, .ref b] ∧ Sqk K k1 H1 a xs ∧ Sqk K k2 H1 b ys ∧ R (Iz2 K k1 k2 a b) H1
def iZ3 (K : PySem.W.Frag) (ta : TA) : TI := fun σ H R => ta σ H fun vs H1 => ∃ (k1 k2 k3 : Bool) (a b c : Addr) (xs ys zs : List V), vs = [.ref a, .ref b, .ref c] ∧ Sqk K k1 H1 a xs ∧ Sqk K k2 H1 b ys ∧ Sqk K k3 H1 c zs ∧ R (Iz3 K k1 k2 k3 a b c) H1
theorem pi_z2 {X : Cx} {e e2 : Expr} {ta : TA} {p pos tpos : Pos} {elts : List Expr} {kk : Nat} (hg : Gl X "zip") (hm : X.mg "zip" = none) (ha : PA X [e, e2] ta)
    (hs : starEach [e, e2] X.env = (false, eval e X.env) :: starEach [e2] X.env := by rfl) (hpl : (backTo pos (starEach [e2] X.env)).any (·.1) = false := by rfl) :
    PI X (.Tuple elts kk tpos) (.Call (.Name "zip" p) [e, e2] [] pos) (iZ2 X.K ta) := by
  refine ⟨fun pins s σ H R I h => ?_⟩
  refine Call_ (ld_blt I hg hm PyProof.Rows.boot_zip (PyProof.Rows.callWith_type1 (thn (ha.run pos pins s σ H _ I h) fun us s1 ⟨vs, H1, I1, r1, q1⟩ => ?_) hs hpl))
  obtain ⟨k1, k2, a, b, xs, ys, ex, hqx, hqy, q⟩ := q1
  subst ex
  cases r1 with
  | cons r rr =>
    cases rr with
    | cons r' rr =>
      cases rr
      cases r
      cases r'
      obtain ⟨its, rv, p1⟩ := invK I1 hqx
      obtain ⟨its2, rv2, p2⟩ := invK I1 hqy
      have la : a < s1.heap.objs.size := p1.lt
      have lb : b < s1.heap.objs.size := p2.lt
      refine zip_begins2 (begK k1 a its.toArray) (begK k2 b its2.toArray) p1 p2 fun h' hz hTI hTO h1 h2 hsz hk => wpAny_pyIter_zip hz ?_
      have I2 : Inv X pins σ H1 { s1 with heap := h' } := I1.kept (t' := s1.toks) hk
      refine ⟨s1.heap.objs.size + 4, [s1.heap.objs.size + 4, s1.heap.objs.size + 2, s1.heap.objs.size + 3, s1.heap.objs.size, s1.heap.objs.size + 1], _, _, H1, rfl, I2, turn_z2 (zip_sep2 (fun b hb => by simp at hb; rw [hb]; exact la) (fun b hb => by simp at hb; rw [hb]; exact lb)) (Nat.ne_of_lt la) (Nat.ne_of_lt (Nat.lt_succ_of_lt lb)), ⟨hz, hTI, ⟨_, _, hTO⟩, ItK.new h1, ItK.new h2⟩, fun c hcm => ?_, q⟩
      have e' : c = s1.heap.objs.size + 4 ∨ c = s1.heap.objs.size + 2 ∨ c = s1.heap.objs.size + 3 ∨ c = s1.heap.objs.size ∨ c = s1.heap.objs.size + 1 := by simpa using hcm
      have hle : s1.heap.objs.size ≤ c := by
        rcases e' with z | z | z | z | z
        · rw [z]; exact Nat.le_add_right _ _
        · rw [z]; exact Nat.le_add_right _ _
        · rw [z]; exact Nat.le_add_right _ _
        · rw [z]; exact Nat.le_refl _
        · rw [z]; exact Nat.le_add_right _ _
      exact I1.fpOk hle (I1.hok.fresh hle)
theorem pi_z3 {X : Cx} {e e2 e3 : Expr} {ta : TA} {p pos tpos : Pos} {elts : List Expr} {kk : Nat} (hg : Gl X "zip") (hm : X.mg "zip" = none) (ha : PA X [e, e2, e3] ta)
    (hs : starEach [e, e2, e3] X.env = (false, eval e X.env) :: starEach [e2, e3] X.env := by rfl) (hpl : (backTo pos (starEach [e2, e3] X.env)).any (·.1) = false := by rfl) :
    PI X (.Tuple elts kk tpos) (.Call (.Name "zip" p) [e, e2, e3] [] pos) (iZ3 X.K ta) := by
  refine ⟨fun pins s σ H R I h => ?_⟩
  refine Call_ (ld_blt I hg hm PyProof.Rows.boot_zip (PyProof.Rows.callWith_type1 (thn (ha.run pos pins s σ H _ I h) fun us s1 ⟨vs, H1, I1, r1, q1⟩ => ?_) hs hpl))
  obtain ⟨k1, k2, k3, a, b, c, xs, ys, zs, ex, hqx, hqy, hqz, q⟩ := q1
  subst ex
  cases r1 with
  | cons r rr =>
    cases rr with
    | cons r' rr =>
      cases rr with
      | cons r'' rr =>
        cases rr
        cases r
        cases r'
        cases r''
        obtain ⟨its, rv, p1⟩ := invK I1 hqx
        obtain ⟨its2, rv2, p2⟩ := invK I1 hqy
        obtain ⟨its3, rv3, p3⟩ := invK I1 hqz
        have la : a < s1.heap.objs.size := p1.lt
        have lb : b < s1.heap.objs.size := p2.lt
        have lc : c < s1.heap.objs.size := p3.lt
        refine zip_begins3 (begK k1 a its.toArray) (begK k2 b its2.toArray) (begK k3 c its3.toArray) p1 p2 p3 fun h' hz hTI hTO h1 h2 h3 hsz hk => wpAny_pyIter_zip hz ?_
        have I2 : Inv X pins σ H1 { s1 with heap := h' } := I1.kept (t' := s1.toks) hk
        refine ⟨s1.heap.objs.size + 5, [s1.heap.objs.size + 5, s1.heap.objs.size + 3, s1.heap.objs.size + 4, s1.heap.objs.size, s1.heap.objs.size + 1, s1.heap.objs.size + 2], _, _, H1, rfl, I2, turn_z3 (zip_sep3 (fun b hb => by simp at hb; rw [hb]; exact la) (fun b hb => by simp at hb; rw [hb]; exact lb) (fun b hb => by simp at hb; rw [hb]; exact lc)) (Nat.ne_of_lt la) (Nat.ne_of_lt (Nat.lt_succ_of_lt lb)) (Nat.ne_of_lt (Nat.lt_succ_of_lt (Nat.lt_succ_of_lt lc))), ⟨hz, hTI, ⟨_, _, _, hTO⟩, ItK.new h1, ItK.new h2, ItK.new h3⟩, fun c hcm => ?_, q⟩
        have e' : c = s1.heap.objs.size + 5 ∨ c = s1.heap.objs.size + 3 ∨ c = s1.heap.objs.size + 4 ∨ c = s1.heap.objs.size ∨ c = s1.heap.objs.size + 1 ∨ c = s1.heap.objs.size + 2 := by simpa using hcm
        have hle : s1.heap.objs.size ≤ c := by
          rcases e' with z | z | z | z | z | z
          · rw [z]; exact Nat.le_add_right _ _
          · rw [z]; exact Nat.le_add_right _ _
          · rw [z]; exact Nat.le_add_right _ _
          · rw [z]; exact Nat.le_refl _
          · rw [z]; exact Nat.le_add_right _ _
          · rw [z]; exact Nat.le_add_right _ _
        exact I1.fpOk hle (I1.hok.fresh hle)
/-- a new triple -/
def YTrip (xs ys zs : Nat → Option V) : Nat → Hp → V → Hp → Prop := fun i H v H' => ∃ T x y z, v = .ref T ∧ H T = none ∧ H' = upd H T (.tup [x, y, z]) ∧ xs i = some x ∧ ys i = some y ∧ zs i = some z
section
variable {K : PySem.W.Frag} {k1 k2 k3 : Bool} {a b c : Addr} {xs ys zs : List V}
theorem walk_z2 (hl : xs.length = ys.length) : Walk (Iz2 K k1 k2 a b) xs.length (fun H => Sqk K k1 H a xs ∧ Sqk K k2 H b ys) (YPair (fun i => xs[i]?) (fun i => ys[i]?)) := by
  refine ⟨fun i _ hi q => ?_, fun _ q => ⟨xs, ys, q.1, q.2, hl, rfl⟩, fun i H v H' _ q y => ?_⟩
  · have h2 : i < ys.length := by omega
    exact ⟨xs, ys, xs[i], ys[i], q.1, q.2, by simp [hi], by simp [h2]⟩
  · obtain ⟨T, x, z, h1, h2, h3, h4, h5⟩ := y
    exact ⟨T, x, z, h1, h2, h3, h4 xs q.1, h5 ys q.2⟩
theorem walk_z3 (hl : xs.length = ys.length) (hl2 : ys.length = zs.length) : Walk (Iz3 K k1 k2 k3 a b c) xs.length (fun H => Sqk K k1 H a xs ∧ Sqk K k2 H b ys ∧ Sqk K k3 H c zs) (YTrip (fun i => xs[i]?) (fun i => ys[i]?) (fun i => zs[i]?)) := by
  refine ⟨fun i _ hi q => ?_, fun _ q => ⟨xs, ys, zs, q.1, q.2.1, q.2.2, hl, hl2, rfl⟩, fun i H v H' _ q y => ?_⟩
  · have h2 : i < ys.length := by omega
    have h3 : i < zs.length := by omega
    exact ⟨xs, ys, zs, xs[i], ys[i], zs[i], q.1, q.2.1, q.2.2, by simp [hi], by simp [h2], by simp [h3]⟩
  · obtain ⟨T, x, z, v, h1, h2, h3, h4, h5, h6⟩ := y
    exact ⟨T, x, z, v, h1, h2, h3, h4 xs q.1, h5 ys q.2.1, h6 zs q.2.2⟩
end
end Cs

namespace Cs
open PySem PySem.Spec PyProof.Rows L2

/-! ### keywords -/
section
variable {X : Cx} {CX : CXT} {k n : Nat} {f C : Addr} {fd : FuncData} {ps ks : List Str} {sp : Sp} {E : XK} {x m : Str} {p pos apos : Pos} {e o : Expr} {es : List Expr} {kws : List Keyword} {ta : TE} {t tk : TA} {g : List Value → List Value → List Value} {gV : List V → List V → List V}
def tMethK (C : Addr) (m : Str) (n j : Nat) (sp : Sp) (gV : List V → List V → List V) (E : XK) (ta : TE) (t tk : TA) : TE := fun σ H Q => ta σ H fun x H1 => ∃ a dx fs, x = .ref a ∧ H1 a = some (.ins C dx fs) ∧ fs.lookup m = none ∧
  t σ H1 fun vs H2 => tk σ H2 fun zs H3 => vs.length = n ∧ zs.length = j ∧ sp (gV (x :: vs) zs) H3 Q E
theorem pe_methK0 {pl : Sem Bool} (he : PE X o ta) (c : Cls X.K C) (hm : Meth X.K C m f) (F : FnOk X.prog X.w X.K X.mg X.base CX k f fd ps sp) (hr : Room k X.A) (hb : KBn X.K fd ps 1 ks g gV) (hx : Passes CX X E) (hkw : PK X kws tk)
    (hall : (backToKw pos (keywordEach kws X.env)).all (·.1.isSome) = true := by rfl) (hks : (backToKw pos (keywordEach kws X.env)).filterMap (·.1) = ks := by rfl)
    (hpl : ((backTo pos (starEach [] X.env)).any (·.1) || (backToKw pos (keywordEach kws X.env)).any (·.1.isNone)) = false := by rfl)
    (ht : eval (.Call (.Attribute o m apos) [] kws pos) X.env = (do
      let ov ← eval o X.env
      standAt apos.atName
      let (f, first) ← holding [ov] (getMethod ov m pl)
      callWith pos f first (backTo pos (starEach [] X.env)) (backToKw pos (keywordEach kws X.env))) := by rfl) :
    PE X (.Call (.Attribute o m apos) [] kws pos) (tMethK C m 0 ks.length sp gV E ta tNil tk) := by
  refine ⟨fun pins s σ H Q I h => ?_⟩
  refine PySem.W.methodCall_KW (pl := pl) (thn (he.run pins s σ H _ I h) fun u s1 ⟨x, H1, I1, rx, a, dx, fs, ex, ea, l, q⟩ => ?_) ht
  subst ex
  obtain rfl : u = Value.ref a := rx
  refine getmeth_ok I1 ea c hm l ?_
  refine PySem.W.callWith_KW0 (h₀ := X.base) (first := [.ref a]) I1.ok.mod.kin hm.kp hall ?_ hpl
  refine thn (hkw.run pos pins s1 σ H1 _ I1 q) fun ws s2 ⟨zs, H2, I2, rz, l1, l2, q2⟩ => ⟨I2.kIn, ?_⟩
  rw [hks]
  exact run_fnN (us := [.ref a]) (vs := [.ref a]) F hr hb hx I2 (.cons rfl .nil) rz rfl l2 q2
end

/-! ### list + list, the left one of any standing -/
theorem op_catS {X : Cx} : OpR X (binaryOp .Add) (fun x y H Q => ∃ l b xs zs, x = .ref l ∧ y = .ref b ∧ SqL X.K H l xs ∧ SqL X.K H b zs ∧ xs.length + zs.length ≤ sizeLine ∧ ∀ p, H p = none → Q (.ref p) (upd H p (.lst (xs ++ zs)))) := by
  intro pins s σ H x y v u Q I rx ry h
  obtain ⟨l, b, xs, zs, rfl, rfl, hH, hB, hz, q⟩ := h
  cases rx
  cases ry
  obtain ⟨its, r, p1, z⟩ := I.list hH
  obtain ⟨its2, r2, p2, z2⟩ := I.list hB
  have e1 := r.length
  have e2 := r2.length
  obtain ⟨⟨cls, dd, data, sl⟩, n, ho, hc, hs, hd⟩ := p1
  obtain ⟨⟨cls2, dd2, data2, sl2⟩, n2, ho2, hc2, hs2, hd2⟩ := p2
  simp only at hc hd hc2 hd2 hs hs2
  subst hc hd hc2 hd2 hs hs2
  have ea : its.toArray ++ its2.toArray = (its ++ its2).toArray := by simp
  refine concat_meets ⟨_, ho, rfl⟩ ⟨_, ho2, rfl⟩ noFill_list_add seq_list_add PySem.F.slot_list_add PySem.F.entry_list_add (PySem.F.args_list_add_2 _ _) (list_addW l b its.toArray its2.toArray n n2 none none sl sl2 (by simp only [List.size_toArray]; omega)) ⟨ho, ho2, ?_⟩
  rw [ea]
  exact ⟨.ref _, _, I.lnew (t' := s.toks) (r.append r2) (by rw [List.length_append]; omega), rfl, q _ I.fresh⟩

/-! ### heaps -/
theorem upd_old {H : Hp} {p q : Addr} {o : HO} (hp : H p = none) (hq : H q ≠ none) : upd H p o q = H q := upd_ne (fun e => hq (by rw [e]; exact hp))
/-- all that was tracked is as it was, but what stands at a -/
def Sx (a : Addr) (H H' : Hp) : Prop := ∀ b o, b ≠ a → H b = some o → H' b = some o
theorem Sx.refl {a : Addr} {H : Hp} : Sx a H H := fun _ _ _ h => h
theorem Sx.trans {a : Addr} {H H1 H2 : Hp} (x : Sx a H H1) (y : Sx a H1 H2) : Sx a H H2 := fun b o n h => y b o n (x b o n h)
theorem Sx.of {a : Addr} {H H' : Hp} (x : Same H H') : Sx a H H' := fun b o _ h => x b o h
theorem Sx.new {a p : Addr} {H : Hp} {o : HO} (hp : H p = none) : Sx a H (upd H p o) := fun b u _ h => by rw [upd_old hp (by rw [h]; simp)]; exact h
theorem Sx.put {a : Addr} {H : Hp} {o : HO} : Sx a H (upd H a o) := fun b u n h => by rw [upd_ne n]; exact h
theorem Same.new {p : Addr} {H : Hp} {o : HO} (hp : H p = none) : Same H (upd H p o) := fun b u h => by rw [upd_old hp (by rw [h]; simp)]; exact h
theorem Sx.same {a : Addr} {H H' : Hp} (x : Sx a H H') (h : H a = none) : Same H H' := fun b o e => x b o (fun z => by rw [z, h] at e; cases e) e
theorem ne_some {H : Hp} {p q : Addr} {o : HO} (hq : H q = some o) (hp : H p = none) : q ≠ p := fun e => by rw [e, hp] at hq; cases hq
theorem ne_two {H : Hp} {p q : Addr} {o u : HO} (hq : H q = some o) (hp : H p = some u) (d : o ≠ u) : q ≠ p := fun e => by rw [e, hp] at hq; exact d (Option.some.inj hq).symm

/-! ### comprehensions -/
section
variable {J : It} {n : Nat} {G : Hp → Prop} {Y : Nat → Hp → V → Hp → Prop}
/-- a comprehension without a test: Ia by the turn, what is made so far, and the heap; it does not look at the new list -/
theorem lc_gen (w : Walk J n G Y) {g : TG} {te : TE} {vs : List Nat} {σ : L2.St} {H1 : Hp} {D : Addr} {Qd : Hp → Prop} (Ia : Nat → List V → Hp → Prop) (hn : n ≤ sizeLine)
    (h0 : Ia 0 [] (upd H1 D (.lst []))) (hG : ∀ i acc H, i ≤ n → Ia i acc H → H D = some (.lst acc) → G H) (hst : ∀ i acc H l, Ia i acc H → H D ≠ none → Ia i acc (upd H D (.lst l)))
    (hs : ∀ i acc x H H' (Qy : VK), i < n → acc.length = i → Ia i acc H → H D = some (.lst acc) → Y i H x H' → (∀ y H4, H4 D = some (.lst acc) → Ia (i + 1) (acc ++ [y]) H4 → Qy y H4) → g x (wipe σ vs) H' fun σ2 H2 => wipe σ2 vs = wipe σ vs ∧ te σ2 H2 Qy)
    (hd : ∀ acc H, acc.length = n → Ia n acc H → H D = some (.lst acc) → Qd H) :
    ∃ W : Nat → Nat → Hp → Prop, (∃ m, W 0 m (upd H1 D (.lst []))) ∧ ∀ i m H, W i m H →
      (J.stop i H ∧ Qd H) ∨ (J.go i H ∧ ∃ Nx : Hp → Prop, (∀ H', Nx H' → ∃ m', m' < m ∧ W (i + 1) m' H') ∧ ∀ x H', J.yld i H x H' → g x (wipe σ vs) H' fun σ2 H2 => wipe σ2 vs = wipe σ vs ∧ tYes σ2 H2 fun b H3 =>
        if b = true then te σ2 H3 fun y H4 => ∃ acc, H4 D = some (.lst acc) ∧ acc.length < sizeLine ∧ Nx (upd H4 D (.lst (acc ++ [y]))) else Nx H3) := by
  refine lc_it w (fun i H => ∃ acc : List V, acc.length = i ∧ Ia i acc H ∧ H D = some (.lst acc)) ⟨[], rfl, h0, upd_same⟩ (fun i H hi ⟨acc, _, h, e⟩ => hG i acc H hi h e) (fun i x H H' hi ⟨acc, hl, h, e⟩ hy => ?_) (fun H ⟨acc, hl, h, e⟩ => hd acc H hl h e)
  refine hs i acc x H H' _ hi hl h e hy fun y H4 q1 q2 => ⟨acc, q1, by omega, acc ++ [y], by rw [List.length_append]; simp [hl], ?_, upd_same⟩
  exact hst _ _ _ _ q2 (by rw [q1]; simp)
/-- a comprehension that maps, and leaves all that was tracked as it was -/
theorem lc_map (w : Walk J n G Y) {g : TG} {te : TE} {vs : List Nat} {σ : L2.St} {H1 : Hp} {D : Addr} {Qd : Hp → Prop} (res : List V) (hl : res.length = n) (hn : n ≤ sizeLine) (hD : H1 D = none)
    (hG : ∀ H, Same H1 H → G H)
    (hs : ∀ i x H H' y (Qy : VK), i < n → Same H1 H → H D ≠ none → Y i H x H' → res[i]? = some y → (∀ H4, Same H' H4 → Qy y H4) → g x (wipe σ vs) H' fun σ2 H2 => wipe σ2 vs = wipe σ vs ∧ te σ2 H2 Qy)
    (hY : ∀ i x H H', Y i H x H' → Same H H')
    (hd : ∀ H, Same H1 H → H D = some (.lst res) → Qd H) :
    ∃ W : Nat → Nat → Hp → Prop, (∃ m, W 0 m (upd H1 D (.lst []))) ∧ ∀ i m H, W i m H →
      (J.stop i H ∧ Qd H) ∨ (J.go i H ∧ ∃ Nx : Hp → Prop, (∀ H', Nx H' → ∃ m', m' < m ∧ W (i + 1) m' H') ∧ ∀ x H', J.yld i H x H' → g x (wipe σ vs) H' fun σ2 H2 => wipe σ2 vs = wipe σ vs ∧ tYes σ2 H2 fun b H3 =>
        if b = true then te σ2 H3 fun y H4 => ∃ acc, H4 D = some (.lst acc) ∧ acc.length < sizeLine ∧ Nx (upd H4 D (.lst (acc ++ [y]))) else Nx H3) := by
  refine lc_gen w (fun i acc H => Same H1 H ∧ acc = res.take i) hn ⟨Same.new hD, by simp⟩ (fun i acc H _ h _ => hG H h.1) (fun i acc H l h _ => ⟨fun b o e => ?_, h.2⟩) (fun i acc x H H' Qy hi ha h e hy hq => ?_) (fun acc H ha h e => ?_)
  · rw [upd_ne (ne_some e hD)]
    exact h.1 b o e
  · have hi2 : i < res.length := by omega
    have hr : res[i]? = some res[i] := List.getElem?_eq_getElem hi2
    refine hs i x H H' res[i] Qy hi h.1 (by rw [e]; simp) hy hr fun H4 s4 => hq _ _ (s4 _ _ (hY _ _ _ _ hy _ _ e)) ⟨h.1.trans ((hY _ _ _ _ hy).trans s4), ?_⟩
    rw [h.2, List.take_add_one, hr]
    rfl
  · rw [h.2, ← hl, List.take_length] at e
    exact hd H h.1 e
end
theorem YAt.same {xs : List V} {i : Nat} {x : V} {H H' : Hp} (h : YAt xs i H x H') : Same H H' := by rw [h.1]; exact Same.refl _
theorem YPair.same {f g : Nat → Option V} {i : Nat} {x : V} {H H' : Hp} (h : YPair f g i H x H') : Same H H' := by
  obtain ⟨T, x, y, _, hT, rfl, _⟩ := h
  exact Same.new hT
theorem YTrip.same {f g k : Nat → Option V} {i : Nat} {x : V} {H H' : Hp} (h : YTrip f g k i H x H') : Same H H' := by
  obtain ⟨T, x, y, z, _, hT, rfl, _⟩ := h
  exact Same.new hT

/-! ### isinstance -/
/-- isinstance(x, c) is b -/
def IsI (K : PySem.W.Frag) (H : Hp) (x c : V) (b : Bool) : Prop := ∃ t u : Value, ClsV c u ∧ TyX K H x t ∧ PySem.W.kitOne K t u = some b
def rIsI (K : PySem.W.Frag) : List V → Hp → VK → Prop := fun vs H Q => ∃ x c b, vs = [x, c] ∧ IsI K H x c b ∧ Q (.bl b) H
theorem call_isI {X : Cx} : CallR X (.builtin "isinstance") (rIsI X.K) := by
  intro pins s σ H xs us Q I r h
  obtain ⟨x, c, b, rfl, ⟨t, u, h1, h2, h3⟩, q⟩ := h
  exact call_isi pins s σ H _ us Q I r ⟨x, c, t, u, b, rfl, h1, h2, h3, q⟩
/-- a value that is no object: its type's name -/
def tyN : V → Option String
  | .non => some "NoneType"
  | .bl _ => some "bool"
  | .int _ => some "int"
  | .str _ => some "str"
  | _ => none
theorem tyN_of {K : PySem.W.Frag} {H : Hp} {x : V} {t : Value} {n : String} (h : TyX K H x t) (e : tyN x = some n) : t = .type n := by
  cases h with
  | base b => cases b <;> simp [tyN] at e <;> subst e <;> rfl
  | byt b => simp [tyN] at e
  | set e' => simp [tyN] at e
  | kList e' _ => simp [tyN] at e
  | kTuple e' _ => simp [tyN] at e
  | kDict e' _ => simp [tyN] at e
  | fTuple e' => simp [tyN] at e
  | fDict e' => simp [tyN] at e
theorem isI_ty {K : PySem.W.Frag} {H : Hp} {x : V} {n : String} {c : String} {b : Bool} (ty : TyX K H x (.type n)) (h : kitB n c = some b) : IsI K H x (.ty c) b := ⟨_, _, .ty c, ty, kit_ty h⟩
theorem isI_iff {K : PySem.W.Frag} {H : Hp} {x : V} {n c : String} {b : Bool} {p : Bool → Prop} (e : tyN x = some n) (ty : TyX K H x (.type n)) (h : kitB n c = some b) : (∃ k, IsI K H x (.ty c) k ∧ p k) ↔ p b := by
  constructor
  · rintro ⟨k, ⟨t, u, hc, ht, hk⟩, q⟩
    have e1 := tyN_of ht e
    subst e1
    cases hc
    have e2 := hk.symm.trans (kit_ty (K := K) h)
    cases e2
    exact q
  · intro q
    exact ⟨b, isI_ty ty h, q⟩
section
variable {K : PySem.W.Frag} {H : Hp} {p : Bool → Prop}
theorem isI_int_int (n : Int) : (∃ k, IsI K H (.int n) (.ty "int") k ∧ p k) ↔ p true := isI_iff rfl (.base (.int n)) (by decide +kernel)
theorem isI_int_bool (n : Int) : (∃ k, IsI K H (.int n) (.ty "bool") k ∧ p k) ↔ p false := isI_iff rfl (.base (.int n)) (by decide +kernel)
theorem isI_bl_int (n : Bool) : (∃ k, IsI K H (.bl n) (.ty "int") k ∧ p k) ↔ p true := isI_iff rfl (.base (.bl n)) (by decide +kernel)
theorem isI_bl_bool (n : Bool) : (∃ k, IsI K H (.bl n) (.ty "bool") k ∧ p k) ↔ p true := isI_iff rfl (.base (.bl n)) (by decide +kernel)
theorem isI_str_str (n : Str) : (∃ k, IsI K H (.str n) (.ty "str") k ∧ p k) ↔ p true := isI_iff rfl (.base (.str n)) (by decide +kernel)
end
theorem isI_tup {K : PySem.W.Frag} {H : Hp} {a : Addr} {xs : List V} (h : H a = some (.tup xs)) : IsI K H (.ref a) (.ty "tuple") true := isI_ty (.base (.tup h)) (by decide +kernel)
theorem isI_lst {K : PySem.W.Frag} {H : Hp} {a : Addr} {xs : List V} (h : H a = some (.lst xs)) : IsI K H (.ref a) (.ty "list") true := isI_ty (.base (.lst h)) (by decide +kernel)
theorem isI_tup_list {K : PySem.W.Frag} {H : Hp} {a : Addr} {xs : List V} (h : H a = some (.tup xs)) : IsI K H (.ref a) (.ty "list") false := isI_ty (.base (.tup h)) (by decide +kernel)
theorem isI_lst_tup {K : PySem.W.Frag} {H : Hp} {a : Addr} {xs : List V} (h : H a = some (.lst xs)) : IsI K H (.ref a) (.ty "tuple") false := isI_ty (.base (.lst h)) (by decide +kernel)
/-- isinstance(x, (c1, c2)) is b -/
def IsA (K : PySem.W.Frag) (H : Hp) (x : V) (cs : List V) (b : Bool) : Prop := ∃ (t : Value) (us : List Value), Paired ClsV cs us ∧ TyX K H x t ∧ PySem.W.kitAny K t us = some b
def rIsA (K : PySem.W.Frag) : List V → Hp → VK → Prop := fun vs H Q => ∃ (x : V) (tp : Addr) (cs : List V) (b : Bool), vs = [x, .ref tp] ∧ H tp = some (.tup cs) ∧ IsA K H x cs b ∧ Q (.bl b) H
theorem call_isA {X : Cx} : CallR X (.builtin "isinstance") (rIsA X.K) := by
  intro pins s σ H xs us Q I r h
  obtain ⟨x, tp, cs, b, rfl, hT, ⟨t, ws, h1, h2, h3⟩, q⟩ := h
  exact call_isiT pins s σ H _ us Q I r ⟨x, tp, cs, t, ws, b, rfl, hT, h1, h2, h3, q⟩
theorem isA_two {K : PySem.W.Frag} {H : Hp} {x : V} {n c1 c2 : String} {b1 b2 b : Bool} (ty : TyX K H x (.type n)) (h1 : kitB n c1 = some b1) (h2 : kitB n c2 = some b2) (e : b = (b1 || b2)) : IsA K H x [.ty c1, .ty c2] b := by
  subst e
  refine ⟨_, [_, _], .cons (.ty c1) (.cons (.ty c2) .nil), ty, kitAny_cons (kit_ty h1) (fun e => ?_) fun e => by rw [e]; rfl⟩
  subst e
  exact kitAny_cons (kit_ty h2) (fun e => by subst e; exact kitAny_nil) fun e => by rw [e]; rfl

/-! ### data -/
theorem dpAll_ints {K : PySem.W.Frag} {H : Hp} : ∀ ns : List Int, DpAll K H (ns.map V.int) (ns.map PyData.int)
  | [] => .nil
  | n :: ns => .cons (.int n) (dpAll_ints ns)
theorem canLay_ints : ∀ ns : List Int, PyData.canLayAll0 (ns.map PyData.int) = true
  | [] => rfl
  | n :: ns => by
    show (PyData.canLay0 (.int n) && PyData.canLayAll0 (ns.map PyData.int)) = true
    rw [canLay_ints ns]
    rfl
theorem depth_ints : ∀ ns : List Int, PyData.depthAll (ns.map PyData.int) = 0
  | [] => rfl
  | n :: ns => by
    show max (PyData.depth (.int n)) (PyData.depthAll (ns.map PyData.int)) = 0
    rw [depth_ints ns]
    rfl
theorem eqvAll_ints : ∀ ns ms : List Int, PyData.eqvAll (ns.map PyData.int) (ms.map PyData.int) = decide (ns = ms)
  | [], [] => rfl
  | [], _ :: _ => rfl
  | _ :: _, [] => rfl
  | n :: ns, m :: ms => by
    show (PyData.eqv (.int n) (.int m) && PyData.eqvAll (ns.map PyData.int) (ms.map PyData.int)) = _
    rw [eqvAll_ints ns ms]
    show ((n == m) && decide (ns = ms)) = decide (n :: ns = m :: ms)
    by_cases h : n = m <;> by_cases h2 : ns = ms <;> simp [h, h2]
def tupI (ns : List Int) : PyData := .tuple (ns.map PyData.int)
theorem dp_tupI {K : PySem.W.Frag} {H : Hp} {a : Addr} {ns : List Int} (h : SqT K H a (ns.map V.int)) : Dp K H (.ref a) (tupI ns) := .tup h (dpAll_ints ns)
theorem eqv_tupI (ns ms : List Int) : PyData.eqv (tupI ns) (tupI ms) = decide (ns = ms) := eqvAll_ints ns ms
theorem shaped_tupI (ns : List Int) : SeqAt.shaped (tupI ns) = true := by
  have h1 : PyData.canLay0 (tupI ns) = true := canLay_ints ns
  have h2 : PyData.depth (tupI ns) ≤ 64 := by
    show PyData.depthAll (ns.map PyData.int) + 1 ≤ 64
    rw [depth_ints ns]
    decide
  unfold SeqAt.shaped
  rw [h1, decide_eq_true h2]
  rfl


/-! ### rules over what is tracked alone -/
section
variable {X : Cx}
theorem ix_lH : IxR X (fun x y H Q => ∃ p i, x = .ref p ∧ y = .int i ∧ ∃ xs, H p = some (.lst xs) ∧ ∃ v, atI xs i = some v ∧ Q v H) := by
  intro value slice pins s σ H x y v u Q I rx ry h hs
  obtain ⟨p, i, rfl, rfl, xs, hp, z, hz, q⟩ := h
  exact ix_list value slice pins s σ H _ _ v u Q I rx ry ⟨p, xs, i, z, rfl, rfl, .inl (.inl hp), hz, q⟩ hs
theorem ix_tH : IxR X (fun x y H Q => ∃ p i, x = .ref p ∧ y = .int i ∧ ∃ xs, H p = some (.tup xs) ∧ ∃ v, atI xs i = some v ∧ Q v H) := by
  intro value slice pins s σ H x y v u Q I rx ry h hs
  obtain ⟨p, i, rfl, rfl, xs, hp, z, hz, q⟩ := h
  exact ix_tup value slice pins s σ H _ _ v u Q I rx ry ⟨p, xs, i, z, rfl, rfl, .inl (.inl hp), hz, q⟩ hs
theorem set_lH : PSet X (fun o i v H Q => ∃ p k, o = .ref p ∧ i = .int k ∧ ∃ xs, H p = some (.lst xs) ∧ ∃ j, ixN xs.length k = some j ∧ Q (upd H p (.lst (xs.set j v)))) := by
  intro pins s σ H o i v ov iv u Q I ro ri rv h
  obtain ⟨p, k, e1, e2, xs, hp, j, hj, q⟩ := h
  exact set_list pins s σ H o i v ov iv u Q I ro ri rv ⟨p, xs, k, j, e1, e2, hp, hj, q⟩
theorem len_H : CallR X (.builtin "len") (fun vs H Q => ∃ p, vs = [.ref p] ∧ ((∃ ys, H p = some (.lst ys) ∧ Q (.int ys.length) H) ∨ ∃ ys, H p = some (.tup ys) ∧ Q (.int ys.length) H)) := by
  intro pins s σ H vs us Q I r h
  obtain ⟨p, e, h⟩ := h
  refine call_len_seq pins s σ H vs us Q I r ?_
  rcases h with ⟨ys, hp, q⟩ | ⟨ys, hp, q⟩
  · exact ⟨p, ys, e, .inl (.inl (.inl hp)), q⟩
  · exact ⟨p, ys, e, .inr (.inl (.inl hp)), q⟩
theorem tuple_H : CallR X (.type "tuple") (fun vs H Q => ∃ p, vs = [.ref p] ∧ ((∃ ys, H p = some (.lst ys) ∧ ∀ l, H l = none → Q (.ref l) (upd H l (.tup ys))) ∨ ∃ ys, H p = some (.tup ys) ∧ Q (.ref p) H)) := by
  intro pins s σ H vs us Q I r h
  obtain ⟨p, e, h⟩ := h
  refine call_tuple_of pins s σ H vs us Q I r ?_
  rcases h with ⟨ys, hp, q⟩ | ⟨ys, hp, q⟩
  · exact ⟨p, ys, e, .inl ⟨.inl (.inl hp), q⟩⟩
  · exact ⟨p, ys, e, .inr ⟨.inl (.inl hp), q⟩⟩
theorem list_H : CallR X (.type "list") (fun vs H Q => ∃ p, vs = [.ref p] ∧ ((∃ ys, H p = some (.lst ys) ∧ ∀ l, H l = none → Q (.ref l) (upd H l (.lst ys))) ∨ ∃ ys, H p = some (.tup ys) ∧ ∀ l, H l = none → Q (.ref l) (upd H l (.lst ys)))) := by
  intro pins s σ H vs us Q I r h
  obtain ⟨p, e, h⟩ := h
  refine call_list_of pins s σ H vs us Q I r ?_
  rcases h with ⟨ys, hp, q⟩ | ⟨ys, hp, q⟩
  · exact ⟨p, ys, e, .inl (.inl (.inl hp)), q⟩
  · exact ⟨p, ys, e, .inr (.inl (.inl hp)), q⟩
theorem all_H (hc : X.calm = true) : CallR X (.builtin "all") (fun vs H Q => ∃ p, vs = [.ref p] ∧ ∃ bs : List Bool, H p = some (.lst (bs.map V.bl)) ∧ Q (.bl (bs.all id)) H) := by
  intro pins s σ H vs us Q I r h
  obtain ⟨p, e, bs, hp, q⟩ := h
  exact cr_all hc pins s σ H vs us Q I r ⟨p, bs, e, .inl (.inl hp), q⟩
/-- a, b = t, t tracked -/
def gTupH (n : Nat) (t : TGs) : TG := fun v σ H Q => ∃ a, v = .ref a ∧ ∃ xs, H a = some (.tup xs) ∧ xs.length = n ∧ t xs σ H Q
theorem pg_tupH {es : List Expr} {k : Nat} {t : TGs} {n : Nat} {pos : Pos} (hc : X.calm = true) (h : PGs X es t)
    (hn : (assignEach es X.env).length = n := by rfl) (hst : (assignEach es X.env).findIdx? (·.1) = none := by rfl) : PG X (.Tuple es k pos) (gTupH n t) := by
  refine ⟨fun pins s σ H v u Q I r hw => ?_⟩
  obtain ⟨a, e1, xs, hq, hl, hw⟩ := hw
  exact (pg_tup hc h hn hst).run pins s σ H v u Q I r ⟨a, xs, e1, .inl (.inl hq), hl, hw⟩
/-- l.append(e) -/
def tAppend (to : TE) (t : TA) : TE := fun σ H Q => to σ H fun x H1 => ∃ p, x = .ref p ∧ ∃ xs, H1 p = some (.lst xs) ∧ t σ H1 fun vs H2 => ∃ y, vs = [y] ∧ ∃ ys, H2 p = some (.lst ys) ∧ ys.length < sizeLine ∧ Q .non (upd H2 p (.lst (ys ++ [y])))
theorem pe_append {o e : Expr} {to : TE} {t : TA} {apos cpos : Pos} (ho : PE X o to) (ha : PA X [e] t)
    (hbase : attributeBase o "append" X.env (eval o X.env) = eval o X.env := by rfl)
    (hfew : ((backTo cpos (starEach [e] X.env)).all (fun x => !x.1) && (backToKw cpos (keywordEach [] X.env)).all (fun x => x.1.isSome)
      && decide (([e] : List Expr).length + ([] : List Keyword).length + (if ([] : List Keyword).isEmpty then 0 else 1) < 30)) = true := by rfl)
    (hline : (apos.endLine == cpos.line) = true := by rfl) (hs : starEach [e] X.env = (false, eval e X.env) :: starEach [] X.env := by rfl) :
    PE X (.Call (.Attribute o "append" apos) [e] [] cpos) (tAppend to t) := by
  refine ⟨fun pins s σ H Q I h => ?_⟩
  refine wpAny_Call_method_late hbase hfew hline rfl (thn (ho.run pins s σ H _ I h) fun v s1 ⟨x, H1, I1, r1, p, ex, xs, hp, q1⟩ => ?_)
  subst ex
  have ty : tyV X.K "list" (.ref p) H1 := .inl ⟨rfl, xs, .inl (.inl hp)⟩
  obtain ⟨h1, h2⟩ := tyV_is I1 r1 ty
  refine ⟨"list", _, PySem.F.plainAttrs_list, PySem.F.slot_list_append, PySem.F.type_list_append, h1, h2, ?_⟩
  have hA := ha.run cpos pins s1 σ H1 _ I1 q1
  rw [hs] at hA ⊢
  refine Calls.callWith_builtin (by rfl) (Calls.evalArgs_plain ?_)
  refine thn hA fun us s2 ⟨vs, H2, I2, r2, y, e2, ys, hp2, hz, q2⟩ => ?_
  exact mt_append pins s2 σ H2 (.ref p) vs v us Q I2 r1 r2 ⟨p, ys, y, rfl, e2, hp2, hz, q2⟩
end
/-! ### loops and comprehensions, closed off -/
def LcR (J : It) (g : TG) (tt : TT) (te : TE) (vs : List Nat) (σ : L2.St) (H1 : Hp) (Q : VK) : Prop := ∀ D, H1 D = none → ∃ W : Nat → Nat → Hp → Prop, (∃ m, W 0 m (upd H1 D (.lst []))) ∧ ∀ i m H, W i m H →
  (J.stop i H ∧ Q (.ref D) H) ∨ (J.go i H ∧ ∃ Nx : Hp → Prop, (∀ H', Nx H' → ∃ m', m' < m ∧ W (i + 1) m' H') ∧ ∀ x H', J.yld i H x H' → g x (wipe σ vs) H' fun σ2 H2 => wipe σ2 vs = wipe σ vs ∧ tt σ2 H2 fun b H3 =>
    if b = true then te σ2 H3 fun y H4 => ∃ acc, H4 D = some (.lst acc) ∧ acc.length < sizeLine ∧ Nx (upd H4 D (.lst (acc ++ [y]))) else Nx H3)
theorem tLc_eq {wi : TI} {g : TG} {tt : TT} {te : TE} {vs : List Nat} {σ : L2.St} {H : Hp} {Q : VK} : tLc wi g tt te vs σ H Q = wi σ H fun J H1 => LcR J g tt te vs σ H1 Q := rfl
def ForR (J : It) (g : TG) (tb : TS) (D : Ends) (σ : L2.St) (H1 : Hp) : Prop := ∃ W : Nat → Nat → L2.St → Hp → Prop, (∃ m, W 0 m σ H1) ∧ ∀ i m σ H, W i m σ H →
  (J.stop i H ∧ D.nx σ H) ∨ (J.go i H ∧ ∃ N : L2.St → Hp → Prop, (∀ σ' H', N σ' H' → ∃ m', m' < m ∧ W (i + 1) m' σ' H') ∧ ∀ x H', J.yld i H x H' → g x σ H' fun σ2 H2 => tb { D with nx := N, ct := N, bk := D.nx } σ2 H2)
theorem tFor_eq {wi : TI} {g : TG} {tb : TS} {D : Ends} {σ : L2.St} {H : Hp} : tFor wi g tb D σ H = wi σ H fun J H1 => ForR J g tb D σ H1 := rfl
/-- what is walked, told by Walk alone -/
def iSeqH (tl : TE) : TI := fun σ H R => tl σ H fun x H1 => ∃ a, x = .ref a ∧ ((∃ xs, H1 a = some (.lst xs) ∧ ∀ J : It, Walk J xs.length (fun H => H a = some (.lst xs)) (YAt xs) → R J H1) ∨ ∃ xs, H1 a = some (.tup xs) ∧ ∀ J : It, Walk J xs.length (fun H => H a = some (.tup xs)) (YAt xs) → R J H1)
def iSeqS (K : PySem.W.Frag) (tl : TE) : TI := fun σ H R => tl σ H fun x H1 => ∃ (k : Bool) (a : Addr) (xs : List V), x = .ref a ∧ Sqk K k H1 a xs ∧ ∀ J : It, Walk J xs.length (fun H => Sqk K k H a xs) (YAt xs) → R J H1
theorem PI.mono {X : Cx} {tg it : Expr} {w w' : TI} (h : PI X tg it w) (m : ∀ σ H R, w' σ H R → w σ H R) : PI X tg it w' := ⟨fun pins s σ H R I q => h.run pins s σ H R I (m σ H R q)⟩
section
variable {X : Cx} {tg l : Expr} {tl : TE}
theorem pi_seqH (hl : PE X l tl) : PI X tg l (iSeqH tl) := by
  have h2 : PE X l fun σ H Q => tl σ H fun x H1 => Q x H1 := hl
  refine ⟨fun pins s σ H R I h => ?_⟩
  refine thn (hl.run pins s σ H _ I h) fun v s1 ⟨x, H1, I1, r1, q1⟩ => ?_
  obtain ⟨a, e, q⟩ := q1
  subst e
  have key : ∀ (k : Bool) (xs : List V), Sqk X.K k H1 a xs → R (match k with | true => Itl X.K a | false => Itt X.K a) H1 → wpAny (model X.prog X.w) X.A (pyIter v) (PIE X pins σ tg R) X.xe s1 := fun k xs hs hR => by
    cases r1
    cases k with
    | true =>
      obtain ⟨its, rv, p, hz⟩ := I1.list hs
      refine wpAny_pyIter_list p.isList ?_
      refine ⟨s1.heap.objs.size, [s1.heap.objs.size], _, _, H1, rfl, I1.kept (t' := s1.toks) fun b o e => Heap.get?_push_of_some _ e, turn_list a _, ⟨_, Heap.get?_push_size _ rfl, rfl, rfl⟩, fun b hb => ?_, hR⟩
      have e : b = s1.heap.objs.size := by simpa using hb
      subst e
      exact I1.fpOk (Nat.le_refl _) (I1.hok.fresh (Nat.le_refl _))
    | false =>
      obtain ⟨its, rv, p, hz⟩ := I1.tuple hs
      refine wpAny_pyIter_tuple (show s1.heap.IsTuple a its.toArray from p) ?_
      refine ⟨s1.heap.objs.size, [s1.heap.objs.size], _, _, H1, rfl, I1.kept (t' := s1.toks) fun b o e => Heap.get?_push_of_some _ e, turn_tuple a _, ⟨_, Heap.get?_push_size _ rfl, rfl, rfl⟩, fun b hb => ?_, hR⟩
      have e : b = s1.heap.objs.size := by simpa using hb
      subst e
      exact I1.fpOk (Nat.le_refl _) (I1.hok.fresh (Nat.le_refl _))
  rcases q with ⟨xs, hp, q⟩ | ⟨xs, hp, q⟩
  · exact key true xs (.inl (.inl hp)) (q _ (walk_list.mono (fun H h => .inl (.inl h)) fun _ _ _ _ _ _ y => y))
  · exact key false xs (.inl (.inl hp)) (q _ (walk_tup.mono (fun H h => .inl (.inl h)) fun _ _ _ _ _ _ y => y))
theorem pi_seqS (hl : PE X l tl) : PI X tg l (iSeqS X.K tl) := by
  refine ⟨fun pins s σ H R I h => ?_⟩
  refine thn (hl.run pins s σ H _ I h) fun v s1 ⟨x, H1, I1, r1, q1⟩ => ?_
  obtain ⟨k, a, xs, e, hs, q⟩ := q1
  subst e
  have hR := q _ walk_seq
  cases r1
  cases k with
  | true =>
    obtain ⟨its, rv, p, hz⟩ := I1.list hs
    refine wpAny_pyIter_list p.isList ?_
    refine ⟨s1.heap.objs.size, [s1.heap.objs.size], _, _, H1, rfl, I1.kept (t' := s1.toks) fun b o e => Heap.get?_push_of_some _ e, turn_list a _, ⟨_, Heap.get?_push_size _ rfl, rfl, rfl⟩, fun b hb => ?_, hR⟩
    have e : b = s1.heap.objs.size := by simpa using hb
    subst e
    exact I1.fpOk (Nat.le_refl _) (I1.hok.fresh (Nat.le_refl _))
  | false =>
    obtain ⟨its, rv, p, hz⟩ := I1.tuple hs
    refine wpAny_pyIter_tuple (show s1.heap.IsTuple a its.toArray from p) ?_
    refine ⟨s1.heap.objs.size, [s1.heap.objs.size], _, _, H1, rfl, I1.kept (t' := s1.toks) fun b o e => Heap.get?_push_of_some _ e, turn_tuple a _, ⟨_, Heap.get?_push_size _ rfl, rfl, rfl⟩, fun b hb => ?_, hR⟩
    have e : b = s1.heap.objs.size := by simpa using hb
    subst e
    exact I1.fpOk (Nat.le_refl _) (I1.hok.fresh (Nat.le_refl _))
end
/-- a list or a tuple, tracked -/
def Sqh (k : Bool) (H : Hp) (a : Addr) (xs : List V) : Prop := match k with
  | true => H a = some (.lst xs)
  | false => H a = some (.tup xs)
theorem Sqh.sqk {K : PySem.W.Frag} {k : Bool} {H : Hp} {a : Addr} {xs : List V} (h : Sqh k H a xs) : Sqk K k H a xs := by
  cases k with
  | true => exact .inl (.inl h)
  | false => exact .inl (.inl h)
theorem Sqh.same {k : Bool} {H H' : Hp} {a : Addr} {xs : List V} (e : Same H H') (h : Sqh k H a xs) : Sqh k H' a xs := by
  cases k with
  | true => exact e _ _ h
  | false => exact e _ _ h
def iZ2H (ta : TA) : TI := fun σ H R => ta σ H fun vs H1 => ∃ a b, vs = [.ref a, .ref b] ∧ ∃ (k1 k2 : Bool) (xs ys : List V), Sqh k1 H1 a xs ∧ Sqh k2 H1 b ys ∧ xs.length = ys.length ∧ ∀ J : It, Walk J xs.length (fun H => Sqh k1 H a xs ∧ Sqh k2 H b ys) (YPair (fun i => xs[i]?) (fun i => ys[i]?)) → R J H1
def iZ3H (ta : TA) : TI := fun σ H R => ta σ H fun vs H1 => ∃ a b c, vs = [.ref a, .ref b, .ref c] ∧ ∃ (k1 k2 k3 : Bool) (xs ys zs : List V), Sqh k1 H1 a xs ∧ Sqh k2 H1 b ys ∧ Sqh k3 H1 c zs ∧ xs.length = ys.length ∧ ys.length = zs.length ∧
  ∀ J : It, Walk J xs.length (fun H => Sqh k1 H a xs ∧ Sqh k2 H b ys ∧ Sqh k3 H c zs) (YTrip (fun i => xs[i]?) (fun i => ys[i]?) (fun i => zs[i]?)) → R J H1
theorem PA.weak {X : Cx} {es : List Expr} {t : TA} (h : PA X es t) {pos : Pos} {pins : List (Addr × Obj)} {s : Shared} {σ : L2.St} {H : Hp} {Q : List V → Hp → Prop} (I : Inv X pins σ H s) (q : t σ H Q) : wpAny (model X.prog X.w) X.A (spliced (backTo pos (starEach es X.env))) (AP X pins σ Q) X.xe s := h.run pos pins s σ H Q I q
/-- an argument list whose reading is asked for less -/
theorem PA.of {X : Cx} {es : List Expr} {t : TA} (h : PA X es t) (f : List V → Hp → (List V → Hp → Prop) → Prop) : PA X es fun σ H Q => t σ H fun vs H1 => Q vs H1 := h
section
variable {X : Cx} {e e2 e3 : Expr} {ta : TA} {p pos tpos : Pos} {elts : List Expr} {kk : Nat}
theorem pi_z2H (hg : Gl X "zip") (hm : X.mg "zip" = none) (ha : PA X [e, e2] ta)
    (hs : starEach [e, e2] X.env = (false, eval e X.env) :: starEach [e2] X.env := by rfl) (hpl : (backTo pos (starEach [e2] X.env)).any (·.1) = false := by rfl) :
    PI X (.Tuple elts kk tpos) (.Call (.Name "zip" p) [e, e2] [] pos) (iZ2H ta) := by
  refine ⟨fun pins s σ H R I h => ?_⟩
  let ta' : TA := fun σ H Q => ta σ H fun vs H1 => (∃ a b, vs = [.ref a, .ref b] ∧ ∃ (k1 k2 : Bool) (xs ys : List V), Sqh k1 H1 a xs ∧ Sqh k2 H1 b ys ∧ xs.length = ys.length ∧ ∀ J : It, Walk J xs.length (fun H => Sqh k1 H a xs ∧ Sqh k2 H b ys) (YPair (fun i => xs[i]?) (fun i => ys[i]?)) → R J H1) ∧ Q vs H1
  have ha' : PA X [e, e2] ta' := ⟨fun pos pins s σ H Q I q => thn (ha.run pos pins s σ H _ I q) fun us s1 ⟨vs, H1, I1, r1, _, q1⟩ => ⟨vs, H1, I1, r1, q1⟩⟩
  refine Call_ (ld_blt I hg hm PyProof.Rows.boot_zip (PyProof.Rows.callWith_type1 (thn (ha.run pos pins s σ H _ I h) fun us s1 ⟨vs, H1, I1, r1, q1⟩ => ?_) hs hpl))
  obtain ⟨a, b, ex, k1, k2, xs, ys, hqx, hqy, hl, q⟩ := q1
  subst ex
  have q := q (Iz2 X.K k1 k2 a b) ((walk_z2 (K := X.K) (k1 := k1) (k2 := k2) (a := a) (b := b) hl).mono (fun H h => ⟨h.1.sqk, h.2.sqk⟩) fun _ _ _ _ _ _ y => y)
  have hqx : Sqk X.K k1 H1 a xs := hqx.sqk
  have hqy : Sqk X.K k2 H1 b ys := hqy.sqk
  cases r1 with
  | cons r rr =>
    cases rr with
    | cons r' rr =>
      cases rr
      cases r
      cases r'
      obtain ⟨its, rv, p1⟩ := invK I1 hqx
      obtain ⟨its2, rv2, p2⟩ := invK I1 hqy
      have la : a < s1.heap.objs.size := p1.lt
      have lb : b < s1.heap.objs.size := p2.lt
      refine zip_begins2 (begK k1 a its.toArray) (begK k2 b its2.toArray) p1 p2 fun h' hz hTI hTO h1 h2 hsz hk => wpAny_pyIter_zip hz ?_
      have I2 : Inv X pins σ H1 { s1 with heap := h' } := I1.kept (t' := s1.toks) hk
      refine ⟨s1.heap.objs.size + 4, [s1.heap.objs.size + 4, s1.heap.objs.size + 2, s1.heap.objs.size + 3, s1.heap.objs.size, s1.heap.objs.size + 1], _, _, H1, rfl, I2, turn_z2 (zip_sep2 (fun b hb => by simp at hb; rw [hb]; exact la) (fun b hb => by simp at hb; rw [hb]; exact lb)) (Nat.ne_of_lt la) (Nat.ne_of_lt (Nat.lt_succ_of_lt lb)), ⟨hz, hTI, ⟨_, _, hTO⟩, ItK.new h1, ItK.new h2⟩, fun c hcm => ?_, q⟩
      have e' : c = s1.heap.objs.size + 4 ∨ c = s1.heap.objs.size + 2 ∨ c = s1.heap.objs.size + 3 ∨ c = s1.heap.objs.size ∨ c = s1.heap.objs.size + 1 := by simpa using hcm
      have hle : s1.heap.objs.size ≤ c := by
        rcases e' with z | z | z | z | z
        · rw [z]; exact Nat.le_add_right _ _
        · rw [z]; exact Nat.le_add_right _ _
        · rw [z]; exact Nat.le_add_right _ _
        · rw [z]; exact Nat.le_refl _
        · rw [z]; exact Nat.le_add_right _ _
      exact I1.fpOk hle (I1.hok.fresh hle)
theorem pi_z3H (hg : Gl X "zip") (hm : X.mg "zip" = none) (ha : PA X [e, e2, e3] ta)
    (hs : starEach [e, e2, e3] X.env = (false, eval e X.env) :: starEach [e2, e3] X.env := by rfl) (hpl : (backTo pos (starEach [e2, e3] X.env)).any (·.1) = false := by rfl) :
    PI X (.Tuple elts kk tpos) (.Call (.Name "zip" p) [e, e2, e3] [] pos) (iZ3H ta) := by
  refine ⟨fun pins s σ H R I h => ?_⟩
  refine Call_ (ld_blt I hg hm PyProof.Rows.boot_zip (PyProof.Rows.callWith_type1 (thn (ha.run pos pins s σ H _ I h) fun us s1 ⟨vs, H1, I1, r1, q1⟩ => ?_) hs hpl))
  obtain ⟨a, b, c, ex, k1, k2, k3, xs, ys, zs, hqx, hqy, hqz, hl, hl2, q⟩ := q1
  subst ex
  have q := q (Iz3 X.K k1 k2 k3 a b c) ((walk_z3 (K := X.K) (k1 := k1) (k2 := k2) (k3 := k3) (a := a) (b := b) (c := c) hl hl2).mono (fun H h => ⟨h.1.sqk, h.2.1.sqk, h.2.2.sqk⟩) fun _ _ _ _ _ _ y => y)
  have hqx : Sqk X.K k1 H1 a xs := hqx.sqk
  have hqy : Sqk X.K k2 H1 b ys := hqy.sqk
  have hqz : Sqk X.K k3 H1 c zs := hqz.sqk
  cases r1 with
  | cons r rr =>
    cases rr with
    | cons r' rr =>
      cases rr with
      | cons r'' rr =>
        cases rr
        cases r
        cases r'
        cases r''
        obtain ⟨its, rv, p1⟩ := invK I1 hqx
        obtain ⟨its2, rv2, p2⟩ := invK I1 hqy
        obtain ⟨its3, rv3, p3⟩ := invK I1 hqz
        have la : a < s1.heap.objs.size := p1.lt
        have lb : b < s1.heap.objs.size := p2.lt
        have lc : c < s1.heap.objs.size := p3.lt
        refine zip_begins3 (begK k1 a its.toArray) (begK k2 b its2.toArray) (begK k3 c its3.toArray) p1 p2 p3 fun h' hz hTI hTO h1 h2 h3 hsz hk => wpAny_pyIter_zip hz ?_
        have I2 : Inv X pins σ H1 { s1 with heap := h' } := I1.kept (t' := s1.toks) hk
        refine ⟨s1.heap.objs.size + 5, [s1.heap.objs.size + 5, s1.heap.objs.size + 3, s1.heap.objs.size + 4, s1.heap.objs.size, s1.heap.objs.size + 1, s1.heap.objs.size + 2], _, _, H1, rfl, I2, turn_z3 (zip_sep3 (fun b hb => by simp at hb; rw [hb]; exact la) (fun b hb => by simp at hb; rw [hb]; exact lb) (fun b hb => by simp at hb; rw [hb]; exact lc)) (Nat.ne_of_lt la) (Nat.ne_of_lt (Nat.lt_succ_of_lt lb)) (Nat.ne_of_lt (Nat.lt_succ_of_lt (Nat.lt_succ_of_lt lc))), ⟨hz, hTI, ⟨_, _, _, hTO⟩, ItK.new h1, ItK.new h2, ItK.new h3⟩, fun c hcm => ?_, q⟩
        have e' : c = s1.heap.objs.size + 5 ∨ c = s1.heap.objs.size + 3 ∨ c = s1.heap.objs.size + 4 ∨ c = s1.heap.objs.size ∨ c = s1.heap.objs.size + 1 ∨ c = s1.heap.objs.size + 2 := by simpa using hcm
        have hle : s1.heap.objs.size ≤ c := by
          rcases e' with z | z | z | z | z | z
          · rw [z]; exact Nat.le_add_right _ _
          · rw [z]; exact Nat.le_add_right _ _
          · rw [z]; exact Nat.le_add_right _ _
          · rw [z]; exact Nat.le_refl _
          · rw [z]; exact Nat.le_add_right _ _
          · rw [z]; exact Nat.le_add_right _ _
        exact I1.fpOk hle (I1.hok.fresh hle)
/-- range(n) -/
def iRng1H (ta : TA) : TI := fun σ H R => ta σ H fun vs H1 => ∃ j : Int, vs = [.int j] ∧ -(2 ^ 62) ≤ j ∧ j < 2 ^ 62 ∧ ∀ J : It, Walk J j.toNat (fun _ => True) (YFn fun i => .int (i : Nat)) → R J H1
theorem pi_range1H {a : Expr} {tg : Expr} (hg : Gl X "range") (hm : X.mg "range" = none) (ha : PA X [a] ta) (hs : starEach [a] X.env = [(false, eval a X.env)] := by rfl) : PI X tg (.Call (.Name "range" p) [a] [] pos) (iRng1H ta) := by
  refine ⟨fun pins s σ H R I h => ?_⟩
  have ha' : PA X [a] fun σ H Q => ta σ H fun vs H1 => (∃ j : Int, vs = [.int j] ∧ -(2 ^ 62) ≤ j ∧ j < 2 ^ 62 ∧ ∀ J : It, Walk J j.toNat (fun _ => True) (YFn fun i => .int (i : Nat)) → R J H1) ∧ ∀ j : Int, vs = [.int j] → -(2 ^ 62) ≤ j → j < 2 ^ 62 → R (Itr 0 j.toNat) H1 → Q vs H1 :=
    ⟨fun pos pins s σ H Q I q => thn (ha.run pos pins s σ H _ I q) fun us s1 ⟨vs, H1, I1, r1, ⟨j, ej, h1, h2, hR⟩, q1⟩ => ⟨vs, H1, I1, r1, q1 j ej h1 h2 (hR _ (walk_range.mono (fun _ _ => trivial) fun _ _ _ _ _ _ y => ⟨y.1, by rw [y.2]; show V.int _ = V.int _; rw [Int.zero_add]⟩))⟩⟩
  refine Call_ (ld_blt I hg hm boot_range (PyProof.Rows.callWith_type1 (thn (ha.run pos pins s σ H _ I h) fun us s1 ⟨vs, H1, I1, r1, q1⟩ => ?_) hs rfl))
  obtain ⟨j, e, q1, q2, q⟩ := q1
  subst e
  have q := q (Itr 0 j.toNat) (walk_range.mono (fun _ _ => trivial) fun _ _ _ _ _ _ y => ⟨y.1, by rw [y.2]; show V.int _ = V.int _; rw [Int.zero_add]⟩)
  cases r1 with
  | cons r rr =>
    cases rr
    obtain ⟨t, rfl⟩ := r
    exact call_range_1 (range_it I1 (by omega) (by omega) q1 q2 (by simpa using q))
end
/-- LcR by its lemmas -/
theorem lcr_map {J : It} {n : Nat} {G : Hp → Prop} {Y : Nat → Hp → V → Hp → Prop} (w : Walk J n G Y) {g : TG} {te : TE} {vs : List Nat} {σ : L2.St} {H1 : Hp} {Q : VK} (res : List V) (hl : res.length = n) (hn : n ≤ sizeLine)
    (hG : ∀ H, Same H1 H → G H) (hY : ∀ i x H H', Y i H x H' → Same H H')
    (hs : ∀ i x H H' y (Qy : VK), i < n → Same H1 H → Y i H x H' → res[i]? = some y → (∀ H4, Same H' H4 → Qy y H4) → g x (wipe σ vs) H' fun σ2 H2 => wipe σ2 vs = wipe σ vs ∧ te σ2 H2 Qy)
    (hd : ∀ D H, H1 D = none → Same H1 H → H D = some (.lst res) → Q (.ref D) H) : LcR J g tYes te vs σ H1 Q := fun D hD =>
  lc_map w res hl hn hD hG (fun i x H H' y Qy hi h1 _ hy hr hq => hs i x H H' y Qy hi h1 hy hr hq) hY fun H h1 h2 => hd D H hD h1 h2
theorem forr {J : It} {n : Nat} {G : Hp → Prop} {Y : Nat → Hp → V → Hp → Prop} (w : Walk J n G Y) {g : TG} {tb : TS} {D : Ends} {σ : L2.St} {H : Hp} (Pv : Nat → L2.St → Hp → Prop) (h0 : Pv 0 σ H) (hG : ∀ i σ H, i ≤ n → Pv i σ H → G H)
    (hs : ∀ i x σ H H', i < n → Pv i σ H → Y i H x H' → g x σ H' fun σ2 H2 => tb { D with nx := Pv (i + 1), ct := Pv (i + 1), bk := D.nx } σ2 H2) (hd : ∀ σ H, Pv n σ H → D.nx σ H) : ForR J g tb D σ H := for_it w Pv h0 hG hs hd
theorem map_bl_iff {bs : List Bool} {p : List Bool → Prop} : (∃ cs : List Bool, bs.map V.bl = cs.map V.bl ∧ p cs) ↔ p bs := by
  constructor
  · rintro ⟨cs, e, h⟩
    have inj : ∀ {a b : List Bool}, a.map V.bl = b.map V.bl → a = b := by
      intro a
      induction a with
      | nil => intro b h; cases b with | nil => rfl | cons _ _ => simp at h
      | cons x a ih => intro b h; cases b with
        | nil => simp at h
        | cons y b => simp only [List.map_cons, List.cons.injEq, V.bl.injEq] at h; rw [h.1, ih h.2]
    rw [inj e]; exact h
  · intro h; exact ⟨bs, rfl, h⟩

theorem sz_le {n : Nat} (h : n ≤ 1000) : (n ≤ sizeLine) = True := eq_true (Nat.le_trans h (by decide))
theorem op_inH {X : Cx} : OpR X (compareOp .In) (fun x y H Q => ∃ p, y = .ref p ∧ ∃ xs, H p = some (.tup xs) ∧ flatV x = true ∧ xs.all flatV = true ∧ Q (.bl (inV x xs)) H) := by
  intro pins s σ H x y v u Q I rx ry h
  obtain ⟨p, e, xs, hp, h1, h2, q⟩ := h
  exact op_in_seq pins s σ H x y v u Q I rx ry ⟨p, xs, e, .inr (.inl (.inl hp)), h1, h2, q⟩
theorem putF_one (f : Str) (v : V) : putF f v [] = [(f, v)] := rfl
theorem lookup_one (f : Str) (v : V) : List.lookup f [(f, v)] = some v := by simp [List.lookup]

/-- * of two ints, one of them below 2 ^ 64, or both together below a million bits -/
def CMulA (i j : Int) : Prop := i.natAbs < 2 ^ 64 ∨ j.natAbs < 2 ^ 64 ∨ CMulW i j
theorem op_mulA {X : Cx} : OpR X (binaryOp .Mult) (rI CMulA fun i j => .int (i * j)) := by
  intro pins s σ H x y v u Q I rx ry h
  obtain ⟨i, j, e1, e2, hc, q⟩ := h
  rcases hc with hc | hc | hc
  · exact op_mul pins s σ H x y v u Q I rx ry ⟨i, j, e1, e2, .inl ⟨by omega, by omega⟩, q⟩
  · exact op_mul pins s σ H x y v u Q I rx ry ⟨i, j, e1, e2, .inr ⟨by omega, by omega⟩, q⟩
  · exact op_mulW pins s σ H x y v u Q I rx ry ⟨i, j, e1, e2, hc, q⟩
theorem atI_0 {x : V} {xs : List V} : atI (x :: xs) 0 = some x := atI_nat (j := 0) rfl
theorem atI_1 {x y : V} {xs : List V} : atI (x :: y :: xs) 1 = some y := atI_nat (j := 1) rfl
theorem atI_2 {x y z : V} {xs : List V} : atI (x :: y :: z :: xs) 2 = some z := atI_nat (j := 2) rfl
theorem ixN_30 : ixN 3 0 = some 0 := rfl
theorem ixN_31 : ixN 3 1 = some 1 := rfl
theorem ixN_32 : ixN 3 2 = some 2 := rfl
theorem atI_in {xs : List V} {i : Int} (h0 : 0 ≤ i) (h1 : i < xs.length) : ∃ v, v ∈ xs ∧ atI xs i = some v := by
  obtain ⟨k, rfl⟩ := Int.eq_ofNat_of_zero_le h0
  have hk : k < xs.length := by omega
  exact ⟨xs[k], List.getElem_mem hk, atI_nat (List.getElem?_eq_getElem hk)⟩
theorem cpow_10 {j : Int} (h0 : 0 ≤ j) (h1 : j ≤ 1000000) : CPow 10 j = True := eq_true ⟨h0, h1, by decide⟩
theorem cdivW_small {i j : Int} (h : 0 < j) (h1 : j < 2 ^ 64) : CDivW i j = True := eq_true (wide_div h (b := 64) (by omega) (by decide) (by decide))
theorem Sx.free {a r : Addr} {H H1 : Hp} (h : Sx a H H1) (n : r ≠ a) (e : H1 r = none) : H r = none := by
  cases q : H r with
  | none => rfl
  | some o => rw [h r o n q] at e; cases e
theorem Sx.putN {a r : Addr} {H H1 : Hp} {o : HO} (h : Sx a H H1) (e : H r = none) : Sx a H (upd H1 r o) := fun b u n q => by
  rw [upd_ne (ne_some q e)]
  exact h b u n q
theorem scal_int (i j : Int) : scal (.int i) (.int j) = true := rfl
theorem scal_str (i j : Str) : scal (.str i) (.str j) = true := rfl
section
variable {K : PySem.W.Frag} {H : Hp} {a b c d e f : Addr} {ns ms ks ls : List Int} {Q : VK}
theorem neD_tup (h1 : H a = some (.tup (ns.map V.int))) (h2 : H b = some (.tup (ms.map V.int))) (q : Q (.bl (!decide (ns = ms))) H) : rNeD K (.ref a) (.ref b) H Q :=
  ⟨_, _, dp_tupI (.inl (.inl h1)), dp_tupI (.inl (.inl h2)), shaped_tupI _, shaped_tupI _, by rw [eqv_tupI]; exact q⟩
theorem eqD_tup (h1 : H a = some (.tup (ns.map V.int))) (h2 : H b = some (.tup (ms.map V.int))) (q : Q (.bl (decide (ns = ms))) H) : rEqD K (.ref a) (.ref b) H Q :=
  ⟨_, _, dp_tupI (.inl (.inl h1)), dp_tupI (.inl (.inl h2)), shaped_tupI _, shaped_tupI _, by rw [eqv_tupI]; exact q⟩
theorem depth_tupI (ns : List Int) : PyData.depth (tupI ns) = 1 := by
  show PyData.depthAll (ns.map PyData.int) + 1 = 1
  rw [depth_ints ns]
theorem shaped_two (ns ms : List Int) : SeqAt.shaped (.tuple [tupI ns, tupI ms]) = true := by
  have h1 : PyData.canLay0 (.tuple [tupI ns, tupI ms]) = true := by
    show (PyData.canLayAll0 (ns.map PyData.int) && (PyData.canLayAll0 (ms.map PyData.int) && true)) = true
    rw [canLay_ints, canLay_ints]
    rfl
  have h2 : PyData.depth (.tuple [tupI ns, tupI ms]) ≤ 64 := by
    show max (PyData.depth (tupI ns)) (max (PyData.depth (tupI ms)) 0) + 1 ≤ 64
    rw [depth_tupI, depth_tupI]
    decide
  unfold SeqAt.shaped
  rw [h1, decide_eq_true h2]
  rfl
theorem eqv_two (ns ms ks ls : List Int) : PyData.eqv (.tuple [tupI ns, tupI ms]) (.tuple [tupI ks, tupI ls]) = (decide (ns = ks) && decide (ms = ls)) := by
  show (PyData.eqv (tupI ns) (tupI ks) && (PyData.eqv (tupI ms) (tupI ls) && true)) = _
  rw [eqv_tupI, eqv_tupI, Bool.and_true]
/-- (t, u) != (v, w), four tuples of ints -/
theorem neD_two (h1 : H a = some (.tup [.ref c, .ref d])) (h2 : H b = some (.tup [.ref e, .ref f])) (hc : H c = some (.tup (ns.map V.int))) (hd : H d = some (.tup (ms.map V.int))) (he : H e = some (.tup (ks.map V.int))) (hf : H f = some (.tup (ls.map V.int)))
    (q : Q (.bl (!(decide (ns = ks) && decide (ms = ls)))) H) : rNeD K (.ref a) (.ref b) H Q :=
  ⟨.tuple [tupI ns, tupI ms], .tuple [tupI ks, tupI ls], .tup (.inl (.inl h1)) (.cons (dp_tupI (.inl (.inl hc))) (.cons (dp_tupI (.inl (.inl hd))) .nil)), .tup (.inl (.inl h2)) (.cons (dp_tupI (.inl (.inl he))) (.cons (dp_tupI (.inl (.inl hf))) .nil)), shaped_two _ _, shaped_two _ _, by rw [eqv_two]; exact q⟩
end
theorem Vals.getD {xs : List V} {us : List Value} (r : Vals xs us) (i : Nat) : RelV (xs.getD i .non) (us.getD i Value.none) := by
  rw [List.getD_eq_getElem?_getD, List.getD_eq_getElem?_getD]
  cases h : xs[i]? with
  | none => rw [L2.Vals.none_of r h]; rfl
  | some x =>
    obtain ⟨u, h2, h3⟩ := L2.Vals.get r h
    rw [h2]
    exact h3
theorem kbn_of {K : PySem.W.Frag} {x qual : Str} {st : Stmt} {f : Addr} {fd : FuncData} (F : Fun K x qual st f fd) (ps : List Str) (n : Nat) (ks : List Str) (g : List Value → List Value → List Value) (gV : List V → List V → List V)
    (h : ∀ (kV doc pm : Value) (an : Option Addr) (cdv ct : Value) (us ws : List Value), us.length = n → ws.length = ks.length → bindArgs (PySem.W.fnOf x qual (defArgs st) (defBody st) (defScope st) .none kV doc pm an cdv ct) ⟨us, ks.zip ws⟩ = pure (ps.zip (g us ws)))
    (rel : ∀ {vs : List V} {us : List Value} {zs : List V} {ws : List Value}, Vals vs us → Vals zs ws → Vals (gV vs zs) (g us ws)) : KBn K fd ps n ks g gV := by
  obtain ⟨oc, od, kV, doc, pm, an, cdv, ct, osl, rfl, lk, hcd⟩ := F.ex
  exact ⟨fun s us ws X l1 l2 => .of_eq (h kV doc pm an cdv ct us ws l1 l2), rel⟩

/-! ### a comprehension with two clauses, closed off -/
/-- the second clause's loop -/
def Lc1R (J1 : It) (g1 : TG) (tt1 : TT) (te : TE) (vs1 : List Nat) (D : Addr) (σ2 : L2.St) (H4 : Hp) (Nx : Hp → Prop) : Prop := ∃ W1 : Nat → Nat → Hp → Prop, (∃ m, W1 0 m H4) ∧ ∀ j k H, W1 j k H →
  (J1.stop j H ∧ Nx H) ∨ (J1.go j H ∧ ∃ Nx1 : Hp → Prop, (∀ H', Nx1 H' → ∃ k', k' < k ∧ W1 (j + 1) k' H') ∧ ∀ x H', J1.yld j H x H' → g1 x (wipe σ2 vs1) H' fun σ3 H5 => wipe σ3 vs1 = wipe σ2 vs1 ∧ tt1 σ3 H5 fun b H6 =>
    if b = true then te σ3 H6 fun y H7 => ∃ acc, H7 D = some (.lst acc) ∧ acc.length < sizeLine ∧ Nx1 (upd H7 D (.lst (acc ++ [y]))) else Nx1 H6)
def Lc2R (J : It) (g : TG) (tt : TT) (wi1 : TI) (g1 : TG) (tt1 : TT) (te : TE) (vs vs1 : List Nat) (σ : L2.St) (H1 : Hp) (Q : VK) : Prop := ∀ D, H1 D = none → ∃ W : Nat → Nat → Hp → Prop, (∃ m, W 0 m (upd H1 D (.lst []))) ∧ ∀ i m H, W i m H →
  (J.stop i H ∧ Q (.ref D) H) ∨ (J.go i H ∧ ∃ Nx : Hp → Prop, (∀ H', Nx H' → ∃ m', m' < m ∧ W (i + 1) m' H') ∧ ∀ x H', J.yld i H x H' → g x (wipe σ vs) H' fun σ2 H2 => wipe σ2 vs = wipe σ vs ∧ tt σ2 H2 fun b H3 =>
    if b = true then wi1 σ2 H3 fun J1 H4 => Lc1R J1 g1 tt1 te vs1 D σ2 H4 Nx else Nx H3)
theorem tLc2_eq {wi : TI} {g : TG} {tt : TT} {wi1 : TI} {g1 : TG} {tt1 : TT} {te : TE} {vs vs1 : List Nat} {σ : L2.St} {H : Hp} {Q : VK} : tLc2 wi g tt wi1 g1 tt1 te vs vs1 σ H Q = wi σ H fun J H1 => Lc2R J g tt wi1 g1 tt1 te vs vs1 σ H1 Q := rfl
/-- the second clause's loop by an invariant of the turn, what is made so far and the heap -/
theorem lc1_gen {J1 : It} {n : Nat} {G : Hp → Prop} {Y : Nat → Hp → V → Hp → Prop} (w : Walk J1 n G Y) {g1 : TG} {te : TE} {vs1 : List Nat} {D : Addr} {σ2 : L2.St} {H4 : Hp} {Nx : Hp → Prop} (Ia : Nat → List V → Hp → Prop)
    (h0 : ∃ acc, Ia 0 acc H4 ∧ H4 D = some (.lst acc)) (hG : ∀ j acc H, j ≤ n → Ia j acc H → H D = some (.lst acc) → G H) (hst : ∀ j acc H l l0, Ia j acc H → H D = some (.lst l0) → Ia j acc (upd H D (.lst l))) (hz : ∀ j acc H, Ia j acc H → acc.length < sizeLine)
    (hs : ∀ j acc x H H' (Qy : VK), j < n → Ia j acc H → H D = some (.lst acc) → Y j H x H' → (∀ y H7, H7 D = some (.lst acc) → Ia (j + 1) (acc ++ [y]) H7 → Qy y H7) → g1 x (wipe σ2 vs1) H' fun σ3 H5 => wipe σ3 vs1 = wipe σ2 vs1 ∧ te σ3 H5 Qy)
    (hd : ∀ acc H, Ia n acc H → H D = some (.lst acc) → Nx H) : Lc1R J1 g1 tYes te vs1 D σ2 H4 Nx := by
  obtain ⟨acc0, i0, e0⟩ := h0
  refine ⟨fun j k H => k = n - j ∧ j ≤ n ∧ ∃ acc : List V, Ia j acc H ∧ H D = some (.lst acc), ⟨n, by simp, Nat.zero_le _, acc0, i0, e0⟩, ?_⟩
  rintro j k H ⟨rfl, hj, acc, hI, e⟩
  have q := hG j acc H hj hI e
  by_cases hlt : j < n
  · refine .inr ⟨w.goes j H hlt q, fun H' => ∃ acc : List V, Ia (j + 1) acc H' ∧ H' D = some (.lst acc), fun H' ⟨acc', h1, h2⟩ => ⟨n - (j + 1), by omega, rfl, hlt, acc', h1, h2⟩, fun x H' y => ?_⟩
    exact hs j acc x H H' _ hlt hI e (w.yields j H x H' hlt q y) fun y H7 e7 h7 => ⟨acc, e7, hz j acc H hI, acc ++ [y], hst _ _ _ _ _ h7 e7, upd_same⟩
  · have en : j = n := by omega
    subst en
    exact .inl ⟨w.stops H q, hd acc H hI e⟩
theorem lc2_gen {J : It} {n : Nat} {G : Hp → Prop} {Y : Nat → Hp → V → Hp → Prop} (w : Walk J n G Y) {g : TG} {wi1 : TI} {g1 : TG} {te : TE} {vs vs1 : List Nat} {σ : L2.St} {H1 : Hp} {Q : VK} (Ia : Addr → Nat → List V → Hp → Prop)
    (h0 : ∀ D, H1 D = none → Ia D 0 [] (upd H1 D (.lst []))) (hG : ∀ D i acc H, H1 D = none → i ≤ n → Ia D i acc H → H D = some (.lst acc) → G H)
    (hs : ∀ D i acc x H H' (Nx : Hp → Prop), H1 D = none → i < n → Ia D i acc H → H D = some (.lst acc) → Y i H x H' → (∀ acc' H7, H7 D = some (.lst acc') → Ia D (i + 1) acc' H7 → Nx H7) → g x (wipe σ vs) H' fun σ2 H2 => wipe σ2 vs = wipe σ vs ∧ wi1 σ2 H2 fun J1 H4 => Lc1R J1 g1 tYes te vs1 D σ2 H4 Nx)
    (hd : ∀ D acc H, H1 D = none → Ia D n acc H → H D = some (.lst acc) → Q (.ref D) H) : Lc2R J g tYes wi1 g1 tYes te vs vs1 σ H1 Q := fun D hD => by
  refine ⟨fun i k H => k = n - i ∧ i ≤ n ∧ ∃ acc : List V, Ia D i acc H ∧ H D = some (.lst acc), ⟨n, by simp, Nat.zero_le _, [], h0 D hD, upd_same⟩, ?_⟩
  rintro i k H ⟨rfl, hi, acc, hI, e⟩
  have q := hG D i acc H hD hi hI e
  by_cases hlt : i < n
  · refine .inr ⟨w.goes i H hlt q, fun H' => ∃ acc : List V, Ia D (i + 1) acc H' ∧ H' D = some (.lst acc), fun H' ⟨acc', h1, h2⟩ => ⟨n - (i + 1), by omega, rfl, hlt, acc', h1, h2⟩, fun x H' y => ?_⟩
    exact hs D i acc x H H' _ hD hlt hI e (w.yields i H x H' hlt q y) fun acc' H7 e7 h7 => ⟨acc', h7, e7⟩
  · have en : i = n := by omega
    subst en
    exact .inl ⟨w.stops H q, hd D acc H hD hI e⟩
/-- a comprehension with a test: Ia by the turn, what is made so far, and the heap -/
theorem lcr_if {J : It} {n : Nat} {G : Hp → Prop} {Y : Nat → Hp → V → Hp → Prop} (w : Walk J n G Y) {g : TG} {tt : TT} {te : TE} {vs : List Nat} {σ : L2.St} {H1 : Hp} {Q : VK} (Ia : Addr → Nat → List V → Hp → Prop) (hn : n < sizeLine)
    (h0 : ∀ D, H1 D = none → Ia D 0 [] (upd H1 D (.lst []))) (hG : ∀ D i acc H, H1 D = none → i ≤ n → Ia D i acc H → H D = some (.lst acc) → G H) (hst : ∀ D i acc H l, H1 D = none → Ia D i acc H → H D ≠ none → Ia D i acc (upd H D (.lst l)))
    (hs : ∀ D i acc x H H' (Qn : Hp → Prop) (Qy : VK), H1 D = none → i < n → Ia D i acc H → H D = some (.lst acc) → Y i H x H' → (∀ H4, H4 D = some (.lst acc) → Ia D (i + 1) acc H4 → Qn H4) → (∀ y H4, H4 D = some (.lst acc) → Ia D (i + 1) (acc ++ [y]) H4 → Qy y H4) →
      g x (wipe σ vs) H' fun σ2 H2 => wipe σ2 vs = wipe σ vs ∧ tt σ2 H2 fun b H3 => if b = true then te σ2 H3 Qy else Qn H3)
    (hd : ∀ D acc H, H1 D = none → acc.length ≤ n → Ia D n acc H → H D = some (.lst acc) → Q (.ref D) H) : LcR J g tt te vs σ H1 Q := fun D hD => by
  refine lc_it w (fun i H => ∃ acc : List V, acc.length ≤ i ∧ Ia D i acc H ∧ H D = some (.lst acc)) ⟨[], Nat.le_refl _, h0 D hD, upd_same⟩ (fun i H hi ⟨acc, _, h, e⟩ => hG D i acc H hD hi h e) (fun i x H H' hi ⟨acc, hl, h, e⟩ hy => ?_) (fun H ⟨acc, hl, h, e⟩ => hd D acc H hD hl h e)
  refine hs D i acc x H H' _ _ hD hi h e hy (fun H4 e4 h4 => ⟨acc, by omega, h4, e4⟩) fun y H4 e4 h4 => ⟨acc, e4, by omega, acc ++ [y], by rw [List.length_append]; simp; omega, ?_, upd_same⟩
  exact hst _ _ _ _ _ hD h4 (by rw [e4]; simp)
/-! ### gcd and lcm of wide ints -/
def rLcm : List V → Hp → VK → Prop := fun vs H Q => ∃ a b : Int, vs = [.int a, .int b] ∧ a.natAbs < 2 ^ 6000 ∧ b.natAbs < 2 ^ 6000 ∧ Q (.int ((Nat.lcm a.natAbs b.natAbs : Nat) : Int)) H
theorem lcm_le_mul (m n : Nat) : m.lcm n ≤ m * n := by
  unfold Nat.lcm
  exact Nat.div_le_self _ _
theorem cr_lcm {X : Cx} : CallR X (.builtin "math.lcm") rLcm := by
  intro pins s σ H vs us Q I r h
  obtain ⟨a, b, rfl, ha, hb, q⟩ := h
  obtain ⟨t, u, rfl⟩ := Vals.int2 r
  have e1 : (Nat.lcm 1 a.natAbs) = a.natAbs := by simp [Nat.lcm]
  have lg : ∀ m : Nat, m < 2 ^ 6000 → m.log2 < 6000 := fun m hm => by
    by_cases h0 : m = 0
    · subst h0; decide
    · exact (Nat.log2_lt h0).mpr hm
  have m1 : max 1 a.natAbs < 2 ^ 6000 := by
    have : (1 : Nat) < 2 ^ 6000 := Nat.one_lt_two_pow (by decide)
    omega
  have m2 : max a.natAbs b.natAbs < 2 ^ 6000 := by omega
  have l1 := lg _ m1
  have l2 := lg _ m2
  have hl : (((Nat.lcm 1 a.natAbs).lcm b.natAbs : Nat) : Int).natAbs.log2 < bitsLine := by
    rw [e1, Int.natAbs_natCast]
    have h1 : a.natAbs.lcm b.natAbs ≤ a.natAbs * b.natAbs := lcm_le_mul _ _
    have h2 : a.natAbs * b.natAbs < 2 ^ 12000 := by
      rw [show (12000 : Nat) = 6000 + 6000 by rfl, Nat.pow_add]
      exact Nat.mul_lt_mul'' ha hb
    have eb : bitsLine = 134217728 := by decide
    rw [eb]
    by_cases h0 : a.natAbs.lcm b.natAbs = 0
    · rw [h0]; decide
    · have h3 : (a.natAbs.lcm b.natAbs).log2 < 12000 := (Nat.log2_lt h0).mpr (Nat.lt_of_le_of_lt h1 h2)
      omega
  refine call_function_meets PySem.W.MGF.kind_lcm PySem.W.MGF.plain_lcm PySem.W.MGF.entry_lcm (PySem.W.MGF.args_lcm _ _) (PySem.W.mg_run_lcm a t b u (by omega) (by omega) hl).meets ?_
  rw [e1]
  exact ⟨.int _, H, I.tok _, ⟨_, rfl⟩, q⟩
/-- *t, .. in a display: t a tracked tuple -/
def tStarH (te : TE) (t : TA) : TA := fun σ H Q => te σ H fun x H1 => ∃ p, x = .ref p ∧ ∃ xs, H1 p = some (.tup xs) ∧ t σ H1 fun ys H2 => Q (xs ++ ys) H2
theorem pa_starH {X : Cx} {e : Expr} {es : List Expr} {te : TE} {t : TA} {p : Pos} (he : PE X e te) (hr : PA X es t) (hs : starEach (.Starred e p :: es) X.env = (true, eval e X.env) :: starEach es X.env := by rfl) : PA X (.Starred e p :: es) (tStarH te t) := by
  refine ⟨fun pos pins s σ H Q I h => ?_⟩
  refine PySem.W.items_star (thn (he.run pins s σ H _ I h) fun v s1 ⟨y, H1, I1, ry, a, ey, xs, hx, q⟩ => ?_) hs
  subst ey
  obtain rfl : v = Value.ref a := ry
  refine StX.star_any I1 (.inl (.inl (.inl hx))) fun us s2 I2 rv => ?_
  exact thn (hr.run pos pins s2 σ H1 _ I2 q) fun ws s3 ⟨vs, H3, I3, r3, q3⟩ => ⟨xs ++ vs, H3, I3, rv.append r3, q3⟩
end Cs

/-! tuple * 1, tests of bools -/
namespace Cs
open PySem PySem.Spec PyProof.Rows L2
theorem tuple_mul_one (l : Addr) (items : Array Value) (n : Nat) (dd : Option Addr) (sl : Array (Option Value)) (u : Tok) :
    Meets (Builtin.«tuple.__mul__» ⟨[.ref l, .int 1 u], []⟩) (fun _ R s => s.heap.get? l = some { cls := .type "tuple", dict := dd, data := .seq items n, slots := sl } ∧ R (.ok (.ret (Value.ref l))) s) :=
  .of_wp fun prog w A R s h => by
    obtain ⟨hp, g, d, tk, os⟩ := s
    obtain ⟨hl, h⟩ := h
    have f1 := AutoSeq1.idx_int
    have c0 : (decide ((1 : Int) < -(2 ^ 63)) || decide ((1 : Int) ≥ 2 ^ 63)) = false := by decide
    have c1 : (items.isEmpty || (1 : Int) == 1) = true := by simp
    wp_walk using wpAny_loadPart' hl
    repeat (first
      | (refine wpAny_ite_false (decide_eq_false (by rw [c0]; exact Bool.false_ne_true)) ?_; wp_walk using wpAny_loadPart' hl)
      | (refine wpAny_ite_true (decide_eq_true (by rw [c1])) ?_; wp_walk using wpAny_loadPart' hl))
    exact ⟨_, rfl, h⟩
/-- a tuple times a count of at least one -/
def rRepA (K : PySem.W.Frag) : R2 := fun x y H Q => ∃ (l : Addr) (k : Nat) (xs : List V), x = .ref l ∧ y = .int k ∧ H l = some (.tup xs) ∧ xs ≠ [] ∧ 1 ≤ k ∧ k ≤ 1000 ∧ xs.length ≤ 1000 ∧ ∀ p H', Same H H' → H' p = some (.tup (List.replicate k xs).flatten) → Q (.ref p) H'
section
variable {X : Cx}
theorem op_repA : OpR X (binaryOp .Mult) (rRepA X.K) := by
  intro pins s σ H x y v u Q I rx ry h
  obtain ⟨l, k, xs, rfl, rfl, hT, hne, h1, h2, hz, q⟩ := h
  by_cases hk : 2 ≤ k
  · refine op_repT pins s σ H _ _ _ _ Q I rx ry ⟨l, k, xs, rfl, rfl, .inl (.inl hT), hne, by omega, by omega, hz, fun p hp => ?_⟩
    have e : ((k : Nat) : Int).toNat = k := by simp
    rw [e]
    exact q p _ (Same.new hp) upd_same
  · obtain rfl : k = 1 := by omega
    cases rx
    obtain ⟨t, rfl⟩ := ry
    obtain ⟨its, r, ⟨⟨cls, dd, data, sl⟩, ho, hc, n, hd⟩, hs⟩ := I.tuple (.inl (.inl hT))
    simp only at hc hd
    subst hc hd
    refine wpAny_binaryOp_repeat_ref (T := "tuple") (U := "int") (by decide) ⟨_, ho, rfl⟩ (fun s' => typeIs_int s' 1 t) noFill_tuple_mul F.fills_int_mul F.slot_int_rmul repeat_tuple F.slot_int_index.lookup
      (call_meets F.slot_int_rmul (typeIs_int s 1 t) F.entry_int_rmul (F.args_int_rmul_2 _ _) (int_rmul_tuple 1 t l its.toArray n dd sl)
        ⟨ho, rfl, ⟨_, ho, rfl⟩, call_meets F.slot_tuple_mul ⟨_, ho, rfl⟩ F.entry_tuple_mul (F.args_tuple_mul_2 _ _) (tuple_mul_one l its.toArray n dd sl t) ⟨ho, ?_⟩⟩)
    refine ⟨.ref l, _, I, rfl, q l H (Same.refl _) ?_⟩
    rw [hT]
    simp
end
/-- tuples of ints at the addresses as -/
def AsT (H : Hp) (as : List Addr) (hss : List (List Int)) : Prop := as.length = hss.length ∧ ∀ (i : Nat) t hs, as[i]? = some t → hss[i]? = some hs → H t = some (.tup (hs.map V.int))
theorem AsT.same {H H' : Hp} {as : List Addr} {hss : List (List Int)} (e : Same H H') (h : AsT H as hss) : AsT H' as hss := ⟨h.1, fun i t hs h1 h2 => e _ _ (h.2 i t hs h1 h2)⟩
theorem AsT.nil {H : Hp} : AsT H [] [] := ⟨rfl, fun i t hs h _ => by simp at h⟩
theorem AsT.snoc {H : Hp} {as : List Addr} {hss : List (List Int)} {t : Addr} {hs : List Int} (h : AsT H as hss) (ht : H t = some (.tup (hs.map V.int))) : AsT H (as ++ [t]) (hss ++ [hs]) := by
  refine ⟨by rw [List.length_append, List.length_append, h.1]; rfl, fun i u gs h1 h2 => ?_⟩
  by_cases hlt : i < as.length
  · rw [List.getElem?_append_left hlt] at h1
    rw [List.getElem?_append_left (by rw [← h.1]; exact hlt)] at h2
    exact h.2 i u gs h1 h2
  · rw [List.getElem?_append_right (by omega)] at h1
    rw [List.getElem?_append_right (by rw [← h.1]; omega), ← h.1] at h2
    cases hk : i - as.length with
    | zero =>
      rw [hk] at h1 h2
      simp only [List.getElem?_cons_zero, Option.some.injEq] at h1 h2
      rw [← h1, ← h2]; exact ht
    | succ m => rw [hk] at h1; simp at h1
/-- a list of tuples of ints, at a -/
def LstT (H : Hp) (a : Addr) (hss : List (List Int)) : Prop := ∃ as : List Addr, H a = some (.lst (as.map V.ref)) ∧ AsT H as hss
theorem LstT.same {H H' : Hp} {a : Addr} {hss : List (List Int)} (e : Same H H') (h : LstT H a hss) : LstT H' a hss := by
  obtain ⟨as, h1, h2⟩ := h
  exact ⟨as, e _ _ h1, h2.same e⟩
theorem scal_bl (b c : Bool) : scal (.bl b) (.bl c) = true := rfl
theorem dpAll_tups {K : PySem.W.Frag} {H : Hp} : ∀ {as : List Addr} {hss : List (List Int)}, AsT H as hss → DpAll K H (as.map V.ref) (hss.map tupI)
  | [], [], _ => .nil
  | [], _ :: _, h => by have := h.1; simp at this
  | _ :: _, [], h => by have := h.1; simp at this
  | a :: as, hs :: hss, h => .cons (dp_tupI (.inl (.inl (h.2 0 a hs rfl rfl)))) (dpAll_tups ⟨by simpa using h.1, fun i t gs h1 h2 => h.2 (i + 1) t gs h1 h2⟩)
theorem canLay_tups : ∀ hss : List (List Int), PyData.canLayAll0 (hss.map tupI) = true
  | [] => rfl
  | hs :: hss => by
    show (PyData.canLay0 (tupI hs) && PyData.canLayAll0 (hss.map tupI)) = true
    rw [canLay_tups hss, show PyData.canLay0 (tupI hs) = true from canLay_ints hs]
    rfl
theorem depth_tups : ∀ hss : List (List Int), PyData.depthAll (hss.map tupI) ≤ 1
  | [] => by decide
  | hs :: hss => by
    show max (PyData.depth (tupI hs)) (PyData.depthAll (hss.map tupI)) ≤ 1
    rw [depth_tupI]
    have := depth_tups hss
    omega
theorem shaped_tups (hss : List (List Int)) : SeqAt.shaped (.list (hss.map tupI)) = true := by
  have h1 : PyData.canLay0 (.list (hss.map tupI)) = true := canLay_tups hss
  have h2 : PyData.depth (.list (hss.map tupI)) ≤ 64 := by
    show PyData.depthAll (hss.map tupI) + 1 ≤ 64
    have := depth_tups hss
    omega
  unfold SeqAt.shaped
  rw [h1, decide_eq_true h2]
  rfl
theorem any_tups (ns : List Int) : ∀ hss : List (List Int), ((hss.map tupI).any fun z => PyData.eqv z (tupI ns)) = decide (ns ∈ hss)
  | [] => by simp
  | hs :: hss => by
    rw [List.map_cons, List.any_cons, any_tups ns hss, eqv_tupI]
    by_cases h : hs = ns
    · subst h; simp
    · have h' : ¬ ns = hs := fun e => h e.symm
      simp [h, h']
section
variable {K : PySem.W.Frag} {H : Hp} {a b : Addr} {ns ms : List Int} {hss : List (List Int)} {Q : VK}
theorem dp_lstT (h : LstT H a hss) : Dp K H (.ref a) (.list (hss.map tupI)) := by
  obtain ⟨as, h1, h2⟩ := h
  exact .lst (.inl (.inl h1)) (dpAll_tups h2)
theorem inD_tups (h1 : H a = some (.tup (ns.map V.int))) (h2 : LstT H b hss) (q : Q (.bl (decide (ns ∈ hss))) H) : rInD K (.ref a) (.ref b) H Q :=
  ⟨_, _, dp_tupI (.inl (.inl h1)), dp_lstT h2, shaped_tupI _, shaped_tups _, by rw [any_tups]; exact q⟩
theorem notInD_tups (h1 : H a = some (.tup (ns.map V.int))) (h2 : LstT H b hss) (q : Q (.bl (!decide (ns ∈ hss))) H) : rNotInD K (.ref a) (.ref b) H Q :=
  ⟨_, _, dp_tupI (.inl (.inl h1)), dp_lstT h2, shaped_tupI _, shaped_tups _, by rw [any_tups]; exact q⟩
theorem shaped_lstI (ns : List Int) : SeqAt.shaped (.list (ns.map PyData.int)) = true := by
  have h1 : PyData.canLay0 (.list (ns.map PyData.int)) = true := canLay_ints ns
  have h2 : PyData.depth (.list (ns.map PyData.int)) ≤ 64 := by
    show PyData.depthAll (ns.map PyData.int) + 1 ≤ 64
    rw [depth_ints ns]
    decide
  unfold SeqAt.shaped
  rw [h1, decide_eq_true h2]
  rfl
theorem eqv_lstI (ns ms : List Int) : PyData.eqv (.list (ns.map PyData.int)) (.list (ms.map PyData.int)) = decide (ns = ms) := eqvAll_ints ns ms
theorem eqD_lst (h1 : H a = some (.lst (ns.map V.int))) (h2 : H b = some (.lst (ms.map V.int))) (q : Q (.bl (decide (ns = ms))) H) : rEqD K (.ref a) (.ref b) H Q :=
  ⟨_, _, .lst (.inl (.inl h1)) (dpAll_ints ns), .lst (.inl (.inl h2)) (dpAll_ints ms), shaped_lstI _, shaped_lstI _, by rw [eqv_lstI]; exact q⟩
theorem neD_lst (h1 : H a = some (.lst (ns.map V.int))) (h2 : H b = some (.lst (ms.map V.int))) (q : Q (.bl (!decide (ns = ms))) H) : rNeD K (.ref a) (.ref b) H Q :=
  ⟨_, _, .lst (.inl (.inl h1)) (dpAll_ints ns), .lst (.inl (.inl h2)) (dpAll_ints ms), shaped_lstI _, shaped_lstI _, by rw [eqv_lstI]; exact q⟩
theorem eqv_tups : ∀ (hss gss : List (List Int)), PyData.eqvAll (hss.map tupI) (gss.map tupI) = decide (hss = gss)
  | [], [] => rfl
  | [], _ :: _ => rfl
  | _ :: _, [] => rfl
  | hs :: hss, gs :: gss => by
    show (PyData.eqv (tupI hs) (tupI gs) && PyData.eqvAll (hss.map tupI) (gss.map tupI)) = _
    rw [eqv_tups hss gss, eqv_tupI]
    by_cases h : hs = gs <;> by_cases h2 : hss = gss <;> simp [h, h2]
theorem neD_tups {gss : List (List Int)} (h1 : LstT H a hss) (h2 : LstT H b gss) (q : Q (.bl (!decide (hss = gss))) H) : rNeD K (.ref a) (.ref b) H Q :=
  ⟨_, _, dp_lstT h1, dp_lstT h2, shaped_tups _, shaped_tups _, by rw [show PyData.eqv (.list (hss.map tupI)) (.list (gss.map tupI)) = decide (hss = gss) from eqv_tups hss gss]; exact q⟩
end
theorem _root_.L2.Room.units1 {k : Nat} {A : Around} (r : Room k A) : A.units + 65 < cLine := by have := r.un; omega
theorem call_isIK {X : Cx} {K : PySem.W.Frag} (h : X.K = K) : CallR X (.builtin "isinstance") (rIsI K) := by subst h; exact call_isI
theorem call_isAK {X : Cx} {K : PySem.W.Frag} (h : X.K = K) : CallR X (.builtin "isinstance") (rIsA K) := by subst h; exact call_isA
end Cs

/-! sets of tuples of ints: set(), x in s, x not in s, s.add(x) -/
namespace Cs
open PySem PySem.Spec PyProof.Rows L2
section
variable {P : Program} {w : World} {A : Around} {E : Value → Shared → Prop} {s : Shared} {a : Addr} {L : List (Addr × List Int)} {es : Array (Int × Value)} {ep : Nat} {t : SetTable}
/-- the c-th probe of a search for a hash -/
abbrev pr (t : SetTable) (h : Int) (c : Nat) : SetTable.Probe := nth t.mask (runAt t.mask (SetTable.bits h % (t.mask + 1)) (SetTable.bits h)) c
theorem nth_clean (m : Nat) : ∀ (n : Nat) (p : SetTable.Probe), p.dummy = none → (nth m p n).dummy = none
  | 0, p, h => h
  | n + 1, p, h => nth_clean m n (adv m p) (by unfold adv; split <;> exact h)
/-- what the table's probe meets from the c-th place on: a row of the same hash, or the empty slot -/
theorem probe_at (R : SetTR P w s.heap a L es ep t) {k : List Int} {K c : Nat} (hKf : K < 10 * SetTable.turns t.mask) (hK : way t.mask (thash P w k) K ∉ t.place.toList) (hKb : ∀ c, c < K → way t.mask (thash P w k) c ∈ t.place.toList) (hc : c ≤ K) :
    (∃ q i p, c + q < K ∧ t.place.toList[i]? = some (way t.mask (thash P w k) (c + q)) ∧ L[i]? = some p ∧
      (∀ (q' i' : Nat) (p' : Addr × List Int), q' < q → L[i']? = some p' → t.place.toList[i']? = some (way t.mask (thash P w k) (c + q')) → p'.2 ≠ k) ∧
      t.probe (fun i => (es[i]?.map (·.1)).getD 0) (thash P w k) (pr t (thash P w k) c) = some (.candidate (way t.mask (thash P w k) (c + q)) i (pr t (thash P w k) (c + q + 1)))) ∨
    ((∀ (q' i' : Nat) (p' : Addr × List Int), c + q' < K → L[i']? = some p' → t.place.toList[i']? = some (way t.mask (thash P w k) (c + q')) → p'.2 ≠ k) ∧
      t.probe (fun i => (es[i]?.map (·.1)).getD 0) (thash P w k) (pr t (thash P w k) c) = some (.empty (way t.mask (thash P w k) K) none)) := by
  have shift : ∀ q, nth t.mask (pr t (thash P w k) c) q = pr t (thash P w k) (c + q) := fun q => (nth_add t.mask c _ q).symm
  have shj : ∀ q, (nth t.mask (pr t (thash P w k) c) q).j = way t.mask (thash P w k) (c + q) := fun q => congrArg SetTable.Probe.j (shift q)
  have hash : ∀ (i : Nat) p, L[i]? = some p → (fun i => (es[i]?.map (·.1)).getD 0) i = thash P w p.2 := fun i p hp => by
    show (es[i]?.map (·.1)).getD 0 = _
    rw [R.entry hp]
    rfl
  have same : ∀ {i : Nat} {p : Addr × List Int}, L[i]? = some p → (fun i => (es[i]?.map (·.1)).getD 0) i ≠ thash P w k → p.2 ≠ k := fun {i p} hp hne e => hne (by rw [hash i p hp, e])
  rcases go_spec t R.tab.ris R.tab.dm (fun i => (es[i]?.map (·.1)).getD 0) (thash P w k) (10 * SetTable.turns t.mask) (K - c) (pr t (thash P w k) c) (nth_clean _ _ _ rfl) (by omega)
    (fun q hq => by rw [shj]; exact hKb _ (by omega)) (by rw [shj, show c + (K - c) = K by omega]; exact hK) with ⟨q, i, hq, hi, _, hno, hp⟩ | ⟨hno, hp⟩
  · left
    rw [shj] at hi
    have hil : i < L.length := by
      have h1 := (List.getElem?_eq_some_iff.mp hi).1
      have h2 := R.tab.sz
      rw [List.length_map] at h2
      rw [Array.length_toList] at h1
      omega
    refine ⟨q, i, L[i], by omega, hi, List.getElem?_eq_getElem hil, fun q' i' p' h1 h2 h3 => same h2 (hno q' i' h1 (by rw [shj]; exact h3)), ?_⟩
    rw [shj, shift] at hp
    exact hp
  · right
    refine ⟨fun q' i' p' h1 h2 h3 => same h2 (hno q' i' (by omega) (by rw [shj]; exact h3)), ?_⟩
    rw [shj, show c + (K - c) = K by omega] at hp
    exact hp
/-- the search that a question asks for -/
theorem look_from (R : SetTR P w s.heap a L es ep t) {x : Addr} {k : List Int} (hx : IsT P w s.heap k x) (hu : A.units < cLine) {K : Nat} (hKf : K < 10 * SetTable.turns t.mask) (hK : way t.mask (thash P w k) K ∉ t.place.toList)
    (hKb : ∀ c, c < K → way t.mask (thash P w k) c ∈ t.place.toList) {Q : SetFound → Shared → Prop} (hin : k ∈ L.map (·.2) → ∀ i, Q (.there (some i)) s) (hout : k ∉ L.map (·.2) → ∀ j, Q (.free j false) s) :
    ∀ (f c : Nat) (st : Option SetTable.Probe), st.getD (t.probeStart (thash P w k)) = pr t (thash P w k) c → c ≤ K → K - c < f →
      (∀ (i : Nat) p, L[i]? = some p → p.2 = k → ∃ c', c ≤ c' ∧ c' < K ∧ t.place.toList[i]? = some (way t.mask (thash P w k) c')) → wpAny (model P w) A (setSearchFrom a (.ref x) (thash P w k) false f st) Q E s := by
  intro f
  induction f with
  | zero => intro c st _ _ h _; exact absurd h (Nat.not_lt_zero _)
  | succ f ih =>
    intro c st hst hc hf hre
    obtain ⟨o, ho, hex, hd⟩ := R.ob
    rw [setSearchFrom_succ]
    refine wpAny_bind (wpAny_setState_of ho hd R.fits ?_)
    dsimp only
    refine wp_if_neg R.gw ?_
    try refine wpAny_bind (wpAny_pure ?_)
    rw [hst]
    rcases probe_at R hKf hK hKb hc with ⟨q, i, p, hq, hi, hp, hno, e⟩ | ⟨hno, e⟩
    · rw [e]
      dsimp only
      have hm : p ∈ L := List.mem_of_getElem? hp
      have live : t.slot (way t.mask (thash P w k) (c + q)) = .live i := slot_live R.tab.ris hi
      have rest : wpAny (model P w) A (searchRest a (.ref x) (thash P w k) false f es t (way t.mask (thash P w k) (c + q)) i (pr t (thash P w k) (c + q + 1))) Q E s := by
        unfold searchRest
        rw [R.entry hp]
        dsimp only
        refine wpAny_bind (wpAny_holding (wpAny_eqBool_tuple hu (R.tup p hm) hx ?_))
        refine wpAny_bind (wpAny_setState_of ho hd R.fits ?_)
        dsimp only
        refine wp_if_neg (by simp) ?_
        try refine wpAny_bind (wpAny_pure ?_)
        rw [sameMem]
        dsimp only
        simp only [if_true, live, R.entry hp]
        refine wpAny_bind (wpAny_isSame_ref_self (wpAny_bind (wpAny_pure ?_)))
        simp only [if_true]
        by_cases hk : p.2 = k
        · refine wp_if_pos (by simp [hk]) ?_
          exact wpAny_pure (hin (List.mem_map.mpr ⟨p, hm, hk⟩) i)
        · refine wp_if_neg (by simp [hk]) ?_
          refine ih (c + q + 1) _ rfl (by omega) (by omega) fun i0 p0 h0 hk0 => ?_
          obtain ⟨c', a1, a2, a3⟩ := hre i0 p0 h0 hk0
          refine ⟨c', ?_, a2, a3⟩
          by_cases h1 : c' < c + q
          · exact absurd hk0 (hno (c' - c) i0 p0 (by omega) h0 (by rw [show c + (c' - c) = c' by omega]; exact a3))
          · by_cases h2 : c' = c + q
            · exfalso
              have l2 := slot_live R.tab.ris a3
              rw [h2, live] at l2
              injection l2 with l2
              rw [← l2, hp] at h0
              exact hk ((congrArg Prod.snd (Option.some.inj h0)).trans hk0)
            · omega
      by_cases hl : t.led = true
      · refine wp_if_neg (by simp [hl]) ?_
        try refine wpAny_bind (wpAny_pure ?_)
        exact rest
      · refine wp_if_pos (by simp [hl]) ?_
        refine wpAny_bind (seen_tup hx (fun y hy => ?_) ?_)
        · obtain ⟨e1, he1, rfl⟩ := List.mem_map.mp hy
          have he2 : e1 ∈ es.toList := by
            have h1 : e1 ∈ es ∧ e1.1 = thash P w k := by simpa using he1
            simpa using h1.1
          rw [R.rows] at he2
          obtain ⟨p2, hp2, rfl⟩ := List.mem_map.mp he2
          exact ⟨p2.2, p2.1, rfl, R.tup p2 hp2⟩
        · refine wp_if_neg (by decide) ?_
          try refine wpAny_bind (wpAny_pure ?_)
          exact rest
    · rw [e]
      dsimp only
      refine wpAny_pure (hout (fun hm => ?_) _)
      obtain ⟨p0, h0, hk0⟩ := List.mem_map.mp hm
      obtain ⟨i0, hi0, e0⟩ := List.getElem_of_mem h0
      have h00 : L[i0]? = some p0 := by rw [List.getElem?_eq_getElem hi0, e0]
      obtain ⟨c', a1, a2, a3⟩ := hre i0 p0 h00 hk0
      exact hno (c' - c) i0 p0 (by omega) h00 (by rw [show c + (c' - c) = c' by omega]; exact a3) hk0
theorem look_at (R : SetTR P w s.heap a L es ep t) {x : Addr} {k : List Int} (hx : IsT P w s.heap k x) (hu : A.units < cLine) {Q : SetFound → Shared → Prop} (hin : k ∈ L.map (·.2) → ∀ i, Q (.there (some i)) s) (hout : k ∉ L.map (·.2) → ∀ j, Q (.free j false) s) :
    wpAny (model P w) A (setSearch a (.ref x) (thash P w k)) Q E s := by
  have hroom := R.room
  obtain ⟨K, hKf, hK, hKb⟩ := R.tab.first (by rw [List.length_map]; omega) (thash P w k)
  have hbig : K < 100000 := by
    have : 10 * SetTable.turns t.mask ≤ 1420 := by
      unfold SetTable.turns
      rcases R.tab.mok with e | e | e <;> omega
    omega
  unfold setSearch
  refine look_from R hx hu hKf hK hKb hin hout 100000 0 none rfl (Nat.zero_le _) (by omega) fun i p hp hk => ?_
  have hi : (L.map fun p => thash P w p.2)[i]? = some (thash P w k) := by rw [List.getElem?_map, hp, ← hk]; rfl
  have hil : i < t.place.toList.length := by
    have h1 : i < L.length := (List.getElem?_eq_some_iff.mp hp).1
    have h2 := R.tab.sz
    rw [List.length_map] at h2
    rw [Array.length_toList]
    omega
  obtain ⟨c, hc, e⟩ := R.tab.before hK hi (List.getElem?_eq_getElem hil)
  exact ⟨c, Nat.zero_le _, hc, by rw [List.getElem?_eq_getElem hil, e]⟩
/-- x in s at the model's level -/
theorem find_tup (R : SetTR P w s.heap a L es ep t) {x : Addr} {k : List Int} (hx : IsT P w s.heap k x) (hu : A.units < cLine) {Q : Option Nat → Shared → Prop} (h : ∀ r, r.isSome = decide (k ∈ L.map (·.2)) → Q r s) :
    wpAny (model P w) A (setFind a (.ref x) (thash P w k)) Q E s := by
  obtain ⟨o, ho, hex, hd⟩ := R.ob
  unfold setFind
  rw [show (100000 : Nat) = 99999 + 1 from rfl]
  unfold setFindIn
  refine wpAny_bind (wpAny_setState_of ho hd R.fits ?_)
  dsimp only
  refine wp_if_neg (by simp [byScan, Value.scannable]) ?_
  try refine wpAny_bind (wpAny_pure ?_)
  refine wpAny_bind (look_at R hx hu (fun hm i => ?_) fun hm j => ?_)
  · exact wpAny_pure (h _ (by rw [decide_eq_true hm]; rfl))
  · exact wpAny_pure (h _ (by rw [decide_eq_false hm]; rfl))
end
section
variable {X : Cx}
theorem setTO_got {pins : List (Addr × Obj)} {σ : L2.St} {H : Hp} {s : Shared} {a : Addr} {L : List (Addr × List Int)} (I : Inv X pins σ H s) (ha : H a = some (SetTO X.prog X.w a L)) (hk : ∀ p ∈ L, H p.1 = some (.tup (p.2.map V.int))) :
    ∃ es ep t, SetTR X.prog X.w s.heap a L es ep t := (I.hok a _ ha).1.full fun p hp => I.isT (.inl (.inl (hk p hp)))
/-- set(), to be filled with tuples of ints -/
def rSet0T (P : Program) (w : World) : List V → Hp → VK → Prop := fun xs H Q => xs = [] ∧ ∀ p, H p = none → Q (.ref p) (upd H p (SetTO P w p []))
theorem cr_set0T : CallR X (.type "set") (rSet0T X.prog X.w) := by
  intro pins s σ H xs us Q I r h
  obtain ⟨rfl, q⟩ := h
  cases r
  refine setR_new fun _ => ?_
  exact ⟨.ref _, upd H s.heap.objs.size (SetTO X.prog X.w s.heap.objs.size []), I.laid (t' := s.toks) (fun b u e => Heap.get?_push_of_some _ e) (Nat.le_refl _) (setTO_new (setTR_fresh (Heap.get?_push_size _ rfl)).t0), rfl, q _ (I.hok.fresh (Nat.le_refl _))⟩
/-- t in s, t not in s -/
def rInT (P : Program) (w : World) (neg : Bool) : R2 := fun x y H Q => ∃ (b a : Addr) (k : List Int) (L : List (Addr × List Int)), x = .ref b ∧ y = .ref a ∧ H b = some (.tup (k.map V.int)) ∧ H a = some (SetTO P w a L) ∧ (∀ p ∈ L, H p.1 = some (.tup (p.2.map V.int))) ∧
  Q (.bl (if neg then !decide (k ∈ L.map (·.2)) else decide (k ∈ L.map (·.2)))) H
theorem contains_tup {P : Program} {w : World} {A : Around} {E : Value → Shared → Prop} {s : Shared} {a x : Addr} {L : List (Addr × List Int)} {es : Array (Int × Value)} {ep : Nat} {t : SetTable} {k : List Int} {Q : Bool → Shared → Prop}
    (R : SetTR P w s.heap a L es ep t) (hx : IsT P w s.heap k x) (hu : A.units + 64 < cLine) (h : ∀ tk, Q (decide (k ∈ L.map (·.2))) { s with toks := tk }) : wpAny (model P w) A (contains (.ref a) (.ref x)) Q E s := by
  obtain ⟨o, ho, hex, hd⟩ := id R.ob
  have ty : s.TypeIs (.ref a) "set" := ⟨o, ho, hex.1⟩
  have hu1 : A.in1.units < cLine := by
    show A.units + 1 < cLine
    omega
  unfold contains
  try with_reducible refine wpAny_holding ?_
  refine wpAny_bind (wpAny_specialOf ty F.slot_set_contains.lookup ?_)
  show wpAny _ _ (if (some (Value.builtin "set.__contains__") == some Value.none) = true then _ else _) _ E s
  rw [if_neg (by rw [beq_builtin_none]; exact Bool.false_ne_true)]
  refine wpAny_bind (wpAny_callSpecialUnlessNone?_slot (name := Str.ofString "__contains__") ty F.slot_set_contains
    (wpAny_call_entry F.slot_set_contains ty entry_set_contains ?_ (F.args_set_contains_2 _ _)))
  unfold Builtin.«frozenset.__contains__» Builtin.Frozenset.oneOther
  simp only [List.isEmpty_nil, bind_assoc]
  unfold Builtin.Frozenset.addrOf Builtin.Frozenset.withSetAsKey setContains
  refine wpAny_bind (wpAny_pure ?_)
  try dsimp only
  refine wpAny_bind (wpAny_pure ?_)
  try dsimp only
  refine wpAny_bind (wpAny_tryCatch ?_)
  refine wpAny_holding ?_
  refine wpAny_bind (wpAny_pyHash_tuple hu1 hx ?_)
  refine wpAny_bind (find_tup (s := { s with toks := s.toks + (k.length + 1) }) R hx hu1 fun r hr => ?_)
  refine wpAny_pure ?_
  show wpAny _ _ (ret (Value.bool r.isSome)) _ _ _
  rw [hr]
  exact wpAny_pure ⟨_, rfl, wpAny_truthy_bool (h _)⟩
theorem op_inT (hu : X.A.units + 64 < cLine) : OpR X (compareOp .In) (rInT X.prog X.w false) := by
  intro pins s σ H x y v u Q I rx ry h
  obtain ⟨b, a, k, L, rfl, rfl, hb, ha, hk, q⟩ := h
  cases rx
  cases ry
  obtain ⟨es, ep, t, R⟩ := setTO_got I ha hk
  show wpAny _ _ ((contains (Value.ref a) (Value.ref b)) >>= fun b => pure (Value.bool b)) _ _ s
  exact wpAny_bind (contains_tup R (I.isT (.inl (.inl hb))) hu fun tk => wpAny_pure ⟨.bl _, H, I.tok _, rfl, q⟩)
theorem op_notInT (hu : X.A.units + 64 < cLine) : OpR X (compareOp .NotIn) (rInT X.prog X.w true) := by
  intro pins s σ H x y v u Q I rx ry h
  obtain ⟨b, a, k, L, rfl, rfl, hb, ha, hk, q⟩ := h
  cases rx
  cases ry
  obtain ⟨es, ep, t, R⟩ := setTO_got I ha hk
  show wpAny _ _ ((contains (Value.ref a) (Value.ref b)) >>= fun b => pure (Value.bool !b)) _ _ s
  exact wpAny_bind (contains_tup R (I.isT (.inl (.inl hb))) hu fun tk => wpAny_pure ⟨.bl _, H, I.tok _, rfl, q⟩)
/-- s.add(t) -/
def rAddT (P : Program) (w : World) : V → List V → Hp → VK → Prop := fun x xs H Q => ∃ (b a : Addr) (k : List Int) (L : List (Addr × List Int)), x = .ref a ∧ xs = [.ref b] ∧ H b = some (.tup (k.map V.int)) ∧ H a = some (SetTO P w a L) ∧ (∀ p ∈ L, H p.1 = some (.tup (p.2.map V.int))) ∧ L.length + 1 < 64 ∧
  ∀ L', (k ∈ L.map (·.2) → L' = L) → (k ∉ L.map (·.2) → L'.Perm ((b, k) :: L)) → Q .non (upd H a (SetTO P w a L'))
theorem mt_addT (hu : X.A.units + 64 < cLine) : MtR X "set.add" (rAddT X.prog X.w) := by
  intro pins s σ H x xs v us Q I rx rxs h
  obtain ⟨b, a, k, L, rfl, rfl, hb, ha, hk, hl, q⟩ := h
  cases rx
  cases rxs with
  | cons ry rt =>
    cases rt
    cases ry
    obtain ⟨es, ep, t, R⟩ := setTO_got I ha hk
    obtain ⟨o, ho, hex, hd⟩ := id R.ob
    have ty : s.TypeIs (.ref a) "set" := ⟨o, ho, hex.1⟩
    have hx := I.isT (.inl (.inl hb)) (b := b) (k := k)
    refine wpAny_call_entry F.slot_set_add ty F.entry_set_add ?_ (F.args_set_add_2 _ _)
    have hu1 : X.A.in1.units < cLine := by
      show X.A.units + 1 < cLine
      omega
    unfold Builtin.«set.add» Builtin.Frozenset.oneOther
    simp only [List.isEmpty_nil, bind_assoc]
    unfold Builtin.Frozenset.addrOf setAdd
    refine wpAny_bind (wpAny_pure ?_)
    try dsimp only
    refine wpAny_bind (wpAny_pure ?_)
    try dsimp only
    refine wpAny_bind ?_
    refine wpAny_holding ?_
    refine wpAny_bind (wpAny_pyHash_tuple hu1 hx ?_)
    refine add_at (s := { s with toks := s.toks + (k.length + 1) }) R hx hu1 hl fun b' h' L' es' ep' t' sb R' c1 c2 => ?_
    show wpAny _ _ (ret Value.none) _ _ _
    obtain ⟨o', ho', _⟩ := R'.ob
    exact wpAny_pure ⟨_, rfl, .non, upd H a (SetTO X.prog X.w a L'), I.write (e := a) (t' := s.toks + (k.length + 1)) (by rw [ha]; trivial) (.inl rfl) (fun c u hc hu => (sb.2 c hc).trans hu) ⟨o', ho'⟩ (setTO_new R'.t0), rfl, q L' c1 c2⟩
def tAddT (P : Program) (w : World) (to : TE) (t : TA) : TE := fun σ H Q => to σ H fun x H1 => (∃ a L, x = V.ref a ∧ H1 a = some (SetTO P w a L)) ∧ t σ H1 fun xs H2 => rAddT P w x xs H2 Q
variable {o e : Expr} {to : TE} {t : TA} {apos cpos : Pos}
theorem pe_addT (hu : X.A.units + 64 < cLine) (ho : PE X o to) (ha : PA X [e] t)
    (hbase : attributeBase o "add" X.env (eval o X.env) = eval o X.env := by rfl)
    (hfew : ((backTo cpos (starEach [e] X.env)).all (fun x => !x.1) && (backToKw cpos (keywordEach [] X.env)).all (fun x => x.1.isSome)
      && decide (([e] : List Expr).length + ([] : List Keyword).length + (if ([] : List Keyword).isEmpty then 0 else 1) < 30)) = true := by rfl)
    (hline : (apos.endLine == cpos.line) = true := by rfl) (hs : starEach [e] X.env = (false, eval e X.env) :: starEach [] X.env := by rfl) :
    PE X (.Call (.Attribute o "add" apos) [e] [] cpos) (tAddT X.prog X.w to t) := by
  refine ⟨fun pins s σ H Q I h => wpAny_Call_method_late hbase hfew hline rfl (thn (ho.run pins s σ H _ I h) fun v s1 ⟨x, H1, I1, r1, ty, q1⟩ => ?_)⟩
  obtain ⟨a, L, rfl, hka⟩ := ty
  obtain ⟨_, _, _, ⟨ob, hob, hex, hd⟩, _⟩ := SetT0.ex (I1.hok a _ hka).1
  cases r1
  refine ⟨"set", "set.add", F.plainAttrs_set, F.slot_set_add, F.type_set_add, ⟨ob, hob, hex.1⟩, ?_, ?_⟩
  · intro a' e
    cases e
    exact ⟨ob, hob, hex.2.1⟩
  have hA := ha.run cpos pins s1 σ H1 _ I1 q1
  rw [hs] at hA ⊢
  refine Calls.callWith_builtin rfl (Calls.evalArgs_plain ?_)
  exact thn hA fun us s2 ⟨vs, H2, I2, r2, q2⟩ => mt_addT hu pins s2 σ H2 (.ref a) vs (.ref a) us Q I2 rfl r2 q2
end
end Cs

/-! for i, x in enumerate(v), v a list or a tuple -/
namespace Cs
open PySem PySem.Spec PyProof.Rows L2
theorem enum1_new {v : Value} {o : Obj} {G : Heap → Prop} (B : Begins v o G) :
    Meets (Builtin.«enumerate.__new__» ⟨[.type "enumerate", v], []⟩) (fun _ R s => G s.heap ∧
      R (.ok (.ret (.ref (s.heap.push o).objs.size))) { s with heap := (s.heap.push o).push { cls := .type "enumerate", data := .fields #[.none, .bool false, .ref s.heap.objs.size, rawInt 0, .none, .none] } }) :=
  .of_wp fun prog w A R s h => by
    obtain ⟨hp, g, d, tk, os⟩ := s
    obtain ⟨h1, h⟩ := h
    have hsub := sub_enumerate
    have it : ∀ {A' : Around} {E : Value → Shared → Prop} {Q : Value → Shared → Prop}, Q (.ref hp.objs.size) ⟨hp.push o, g, d, tk, os⟩ → wpAny (model prog w) A' (pyIter v) Q E ⟨hp, g, d, tk, os⟩ :=
      fun q => B.iter prog w _ _ ⟨hp, g, d, tk, os⟩ _ h1 q
    wp_walk using it
    refine wpAny_stack_any fun st => wpAny_pure ?_
    split
    · rename_i c _ _ _ _ _
      cases (c == Value.type "enumerate") <;> (wp_walk using it; exact ⟨_, rfl, h⟩)
    · wp_walk using it
      exact ⟨_, rfl, h⟩
section
variable {prog : Program} {w : World} {A : Around} {E : Value → Shared → Prop} {s : Shared}
theorem enum1_begins {v : Value} {o : Obj} {G : Heap → Prop} {Q : Value → Shared → Prop} (B : Begins v o G) (h1 : G s.heap)
    (h : ∀ h', IsEnum h' (s.heap.objs.size + 1) s.heap.objs.size 0 .none → h'.get? s.heap.objs.size = some o → (∀ b o, s.heap.get? b = some o → h'.get? b = some o) → Q (.ref (s.heap.objs.size + 1)) { s with heap := h' }) :
    wpAny (model prog w) A (call (.type "enumerate") [v]) Q E s := by
  refine callType_new F.called_enumerate (by decide) (F.typeCall_enumerate_1 _) (F.newCall_enumerate_1 _) (fun obj => F.args_object_init_2 obj _) F.entry_enumerate_new (enum1_new B) ⟨h1, ?_⟩
  have hz : (s.heap.push o).objs.size = s.heap.objs.size + 1 := Heap.size_push ..
  have he := Heap.get?_push_size (s.heap.push o) (o := { cls := .type "enumerate", data := .fields #[.none, .bool false, .ref s.heap.objs.size, rawInt 0, .none, .none] }) rfl
  show _ ∧ _
  rw [hz] at he ⊢
  exact ⟨⟨_, he, rfl⟩, h _ he (Heap.get?_push_of_some _ (Heap.get?_push_size _ B.free)) fun b o x => Heap.get?_push_of_some _ (Heap.get?_push_of_some _ x)⟩
end
/-- the items in new pairs with their index -/
def Iek (K : PySem.W.Frag) (k : Bool) (a : Addr) : It :=
  ⟨fun i H => ∃ (xs : List V) (x : V), Sqk K k H a xs ∧ xs[i]? = some x, fun i H v H' => ∃ T x, v = .ref T ∧ H T = none ∧ H' = upd H T (.tup [.int (i : Nat), x]) ∧ ∀ xs, Sqk K k H a xs → xs[i]? = some x, fun i H => ∃ xs : List V, Sqk K k H a xs ∧ xs.length = i⟩
theorem turn_ek {P : Program} {w : World} {K : PySem.W.Frag} {elts : List Expr} {kk : Nat} {tpos : Pos} {k : Bool} {a e it : Addr} (n1 : a ≠ it) (n2 : e ≠ it) (n3 : e ≠ a) :
    Turn P w K (.Tuple elts kk tpos) (Iek K k a) [e, it] e (fun i h => (∃ old, IsEnum h e it ((i : Nat) : Int) old) ∧ ItK k h it a i) where
  mem := by simp
  obj := fun i h st c hc => by
    obtain ⟨⟨old, he⟩, hi⟩ := st
    have e' : c = e ∨ c = it := by simpa using hc
    rcases e' with q | q
    · rw [q]; exact ⟨_, he, fun v q => nomatch q⟩
    · rw [q]; exact hi.obj
  keep := fun i h h' st k => ⟨st.1.imp fun old he => k e (by simp) _ he, st.2.at fun o q => k it (by simp) o q⟩
  item := by
    intro X hP hw hK hc i pins s σ H E I hf st hg
    subst hP hw hK
    obtain ⟨xs, x, hqx, hx⟩ := hg
    obtain ⟨its, rv, p⟩ := invK I hqx
    obtain ⟨u, hu, ru⟩ := rv.get hx
    have D := drawsK (prog := X.prog) (w := X.w) (A := X.A.in1) (I.ok.hd hc) k it a n1 its.toArray
    have l1 : i < its.length := (List.getElem?_eq_some_iff.mp hu).1
    have W := GoesN.enumFrom (elts := elts) (x1 := kk) (pos := tpos) 0 D e n2 (by simp [n2, n3]) (by simp)
    have st0 : (∃ old, IsEnum s.heap e it (0 + ((i : Nat) : Int)) old) ∧ ItK k s.heap it a i ∧ SeqK k s.heap a its.toArray := by
      rw [Int.zero_add]
      exact ⟨st.1, st.2, p⟩
    refine W.goes i s (fun v s2 => ∃ x H', Inv X pins σ H' s2 ∧ RelV x v ∧ (Iek X.K k a).yld i H x H' ∧ ((∃ old, IsEnum s2.heap e it ((i + 1 : Nat) : Int) old) ∧ ItK k s2.heap it a (i + 1)) ∧ ∀ b ∈ [e, it], H' b = none) E (by simpa using l1) st0 fun v h' tk hY st' hk htk => ?_
    obtain ⟨T, tk0, v1, rfl, hT, e1, hTu⟩ := hY
    have q1 : v1 = u := by
      have e1' : its[i]? = some v1 := by simpa using e1
      rw [hu] at e1'; exact (Option.some.inj e1').symm
    subst q1
    have new : ObjOk X.prog X.w (upd H T (.tup [.int (i : Nat), x])) h' T (.tup [.int (i : Nat), x]) :=
      ⟨by show 2 ≤ sizeLine; decide, [.int (0 + (i : Int)) tk0, v1], .cons ⟨tk0, by rw [Int.zero_add]⟩ (.cons ru .nil), hTu⟩
    have I1 : Inv X pins σ (upd H T (.tup [.int (i : Nat), x])) { s with heap := h', toks := tk } :=
      I.turnedNew (t' := tk) (ch := [e, it]) (fun c o hb q => hk c o hb q) hf hT new
    refine ⟨.ref T, _, I1, rfl, ⟨T, x, rfl, I.hok.fresh hT, rfl, fun l hl => by rw [injK I hl hqx]; exact hx⟩, ⟨by have z := st'.1; rw [Int.zero_add] at z; exact z, st'.2.1⟩, fun c hcm => ?_⟩
    have hlt : c < s.heap.objs.size := by
      obtain ⟨⟨old, he⟩, hi⟩ := st
      have e' : c = e ∨ c = it := by simpa using hcm
      rcases e' with q | q
      · rw [q]; exact Heap.lt_size he
      · rw [q]; obtain ⟨_, e1, _⟩ := hi.obj; exact Heap.lt_size e1
    rw [upd_ne (Nat.ne_of_lt (Nat.lt_of_lt_of_le hlt hT))]
    exact (hf c hcm).1
  done := by
    intro X hP hw hK hc i pins s σ H E I hf st hg
    subst hP hw hK
    obtain ⟨xs, hqx, hi⟩ := hg
    obtain ⟨its, rv, p⟩ := invK I hqx
    have D := drawsK (prog := X.prog) (w := X.w) (A := X.A.in1) (I.ok.hd hc) k it a n1 its.toArray
    have W := GoesN.enumFrom (elts := elts) (x1 := kk) (pos := tpos) 0 D e n2 (by simp [n2, n3]) (by simp)
    have en : its.toArray.size = i := by
      have := rv.length
      simp only [List.size_toArray]
      omega
    have st0 : (∃ old, IsEnum s.heap e it (0 + ((its.toArray.size : Nat) : Int)) old) ∧ ItK k s.heap it a its.toArray.size ∧ SeqK k s.heap a its.toArray := by
      rw [en, Int.zero_add]
      exact ⟨st.1, st.2, p⟩
    refine W.stops s (fun s1 => Inv X pins σ H s1) E st0 fun h' tk hk htk => ?_
    exact I.turnedL (t' := tk) (ch := [e, it]) (fun c o hb q => hk c o (fun hm => hb (by simpa using hm)) q) hf
  self := fun A i s Q E st h => let ⟨⟨_, he⟩, _⟩ := st; wpAny_pyIter_enum he h
def YEn (xs : List V) : Nat → Hp → V → Hp → Prop := fun i H v H' => ∃ T x, v = .ref T ∧ H T = none ∧ H' = upd H T (.tup [.int (i : Nat), x]) ∧ xs[i]? = some x
theorem YEn.same {xs : List V} {i : Nat} {x : V} {H H' : Hp} (h : YEn xs i H x H') : Same H H' := by
  obtain ⟨T, y, _, hT, rfl, _⟩ := h
  exact Same.new hT
theorem walk_en {K : PySem.W.Frag} {k : Bool} {a : Addr} {xs : List V} : Walk (Iek K k a) xs.length (fun H => Sqh k H a xs) (YEn xs) := by
  refine ⟨fun i _ hi q => ⟨xs, xs[i], q.sqk, List.getElem?_eq_getElem hi⟩, fun _ q => ⟨xs, q.sqk, rfl⟩, fun i H v H' _ q y => ?_⟩
  obtain ⟨T, x, h1, h2, h3, h4⟩ := y
  exact ⟨T, x, h1, h2, h3, h4 xs q.sqk⟩
def iEnH (ta : TA) : TI := fun σ H R => ta σ H fun vs H1 => ∃ a, vs = [.ref a] ∧ ∃ (k : Bool) (xs : List V), Sqh k H1 a xs ∧ ∀ J : It, Walk J xs.length (fun H => Sqh k H a xs) (YEn xs) → R J H1
theorem pi_enH {X : Cx} {e : Expr} {ta : TA} {p pos tpos : Pos} {elts : List Expr} {kk : Nat} (hg : Gl X "enumerate") (hm : X.mg "enumerate" = none) (ha : PA X [e] ta) (hs : starEach [e] X.env = [(false, eval e X.env)] := by rfl) :
    PI X (.Tuple elts kk tpos) (.Call (.Name "enumerate" p) [e] [] pos) (iEnH ta) := by
  refine ⟨fun pins s σ H R I h => ?_⟩
  refine Call_ (ld_blt I hg hm boot_enumerate (PyProof.Rows.callWith_type1 (thn (ha.run pos pins s σ H _ I h) fun us s1 ⟨vs, H1, I1, r1, q1⟩ => ?_) hs rfl))
  obtain ⟨a, ex, k, xs, hq, q⟩ := q1
  subst ex
  have q := q (Iek X.K k a) walk_en
  cases r1 with
  | cons r rr =>
    cases rr
    cases r
    obtain ⟨its, rv, p'⟩ := invK I1 (hq.sqk (K := X.K))
    have la : a < s1.heap.objs.size := p'.lt
    refine enum1_begins (begK k a its.toArray) p' fun h' he hit hk => wpAny_pyIter_enum he ?_
    have I2 : Inv X pins σ H1 { s1 with heap := h' } := I1.kept (t' := s1.toks) hk
    refine ⟨s1.heap.objs.size + 1, [s1.heap.objs.size + 1, s1.heap.objs.size], _, _, H1, rfl, I2, turn_ek (k := k) (a := a) (Nat.ne_of_lt la) (Nat.succ_ne_self _) (Nat.ne_of_gt (Nat.lt_succ_of_lt la)), ⟨⟨.none, he⟩, ItK.new hit⟩, fun b hb => ?_, q⟩
    have e' : b = s1.heap.objs.size + 1 ∨ b = s1.heap.objs.size := by simpa using hb
    have hle : s1.heap.objs.size ≤ b := by
      rcases e' with z | z
      · rw [z]; exact Nat.le_add_right _ _
      · rw [z]; exact Nat.le_refl _
    exact I1.fpOk hle (I1.hok.fresh hle)
end Cs

namespace Cs
open PySem PySem.Spec PyProof.Rows L2
/-! ### readings that name the frame, for use within comprehensions -/
section
variable {X : Cx} {K : PySem.W.Frag}
theorem op_eqDK (h : X.K = K) (hu : X.A.units + 64 < cLine) : OpR X (compareOp .Eq) (rEqD K) := by subst h; exact op_eqD hu
theorem op_neDK (h : X.K = K) (hu : X.A.units + 64 < cLine) : OpR X (compareOp .NotEq) (rNeD K) := by subst h; exact op_neD hu
theorem op_inDK (h : X.K = K) (hu : X.A.units + 65 < cLine) : OpR X (compareOp .In) (rInD K) := by subst h; exact op_inD hu
theorem op_notInDK (h : X.K = K) (hu : X.A.units + 65 < cLine) : OpR X (compareOp .NotIn) (rNotInD K) := by subst h; exact op_notInD hu
theorem sl_listK (h : X.K = K) : SlR X (rSlL K) := by subst h; exact sl_list
theorem op_repAK (h : X.K = K) : OpR X (binaryOp .Mult) (rRepA K) := by subst h; exact op_repA
/-- xs[::-1] of a list -/
theorem pe_revLK (h : X.K = K) {e : Expr} {te : TE} {k : Nat} {p1 p2 p3 pos : Pos} (he : PE X e te) : PE X (.Subscript e (.Slice none none (some (.UnaryOp .USub (.Constant (.int 1) k p1) p2)) p3) pos) (tRevL K te) := by subst h; exact pe_revL he
end
end Cs

namespace Lw
open PySem PySem.Spec PyProof.Rows L2 Cs
def top (i : Nat) : Stmt := PySem.Challenge.pw_calledseats_k17_whole_one_target.main.body.getD i (.Pass ⟨0, 0, 0, 0⟩)
abbrev d_is_integer : Stmt := top 8
abbrev N_is_integer : List Str := ["number"]
theorem sc_is_integer : FnScope N_is_integer ["number"] (defScope d_is_integer) := ⟨rfl, rfl, rfl, by decide +kernel, rfl, by decide +kernel, by decide +kernel⟩
abbrev d_is_seat : Stmt := top 9
abbrev N_is_seat : List Str := ["sizes", "seat", "place", "size"]
theorem sc_is_seat : FnScope N_is_seat ["sizes", "seat"] (defScope d_is_seat) := ⟨rfl, rfl, rfl, by decide +kernel, rfl, by decide +kernel, by decide +kernel⟩
abbrev d_require_seat : Stmt := top 10
abbrev N_require_seat : List Str := ["sizes", "seat"]
theorem sc_require_seat : FnScope N_require_seat ["sizes", "seat"] (defScope d_require_seat) := ⟨rfl, rfl, rfl, by decide +kernel, rfl, by decide +kernel, by decide +kernel⟩
abbrev d_require_seats : Stmt := top 11
abbrev N_require_seats : List Str := ["sizes", "seats", "seen", "index", "seat"]
theorem sc_require_seats : FnScope N_require_seats ["sizes", "seats"] (defScope d_require_seats) := ⟨rfl, rfl, rfl, by decide +kernel, rfl, by decide +kernel, by decide +kernel⟩
abbrev d_require_targets : Stmt := top 12
abbrev N_require_targets : List Str := ["sizes", "targets"]
theorem sc_require_targets : FnScope N_require_targets ["sizes", "targets"] (defScope d_require_targets) := ⟨rfl, rfl, rfl, by decide +kernel, rfl, by decide +kernel, by decide +kernel⟩
abbrev d_Table_init : Stmt := inClass (top 15) 0
abbrev N_Table_init : List Str := ["self", "rings"]
theorem sc_Table_init : FnScope N_Table_init ["self", "rings"] (defScope d_Table_init) := ⟨rfl, rfl, rfl, by decide +kernel, rfl, by decide +kernel, by decide +kernel⟩
abbrev d_Table_sizes : Stmt := inClass (top 15) 1
abbrev N_Table_sizes : List Str := ["self"]
theorem sc_Table_sizes : FnScope N_Table_sizes ["self"] (defScope d_Table_sizes) := ⟨rfl, rfl, rfl, by decide +kernel, rfl, by decide +kernel, by decide +kernel⟩
abbrev d_Table_order : Stmt := inClass (top 15) 5
abbrev N_Table_order : List Str := ["self", "seat", "copies", "place", "size"]
theorem sc_Table_order : FnScope N_Table_order ["self", "seat"] (defScope d_Table_order) := ⟨rfl, rfl, rfl, by decide +kernel, rfl, by decide +kernel, by decide +kernel⟩
abbrev d_Table_halves : Stmt := inClass (top 15) 6
abbrev N_Table_halves : List Str := ["self", "seat", "place", "size"]
theorem sc_Table_halves : FnScope N_Table_halves ["self", "seat"] (defScope d_Table_halves) := ⟨rfl, rfl, rfl, by decide +kernel, rfl, by decide +kernel, by decide +kernel⟩
abbrev d_sizes_of : Stmt := top 16
abbrev N_sizes_of : List Str := ["table"]
theorem sc_sizes_of : FnScope N_sizes_of ["table"] (defScope d_sizes_of) := ⟨rfl, rfl, rfl, by decide +kernel, rfl, by decide +kernel, by decide +kernel⟩
abbrev d_all_choices : Stmt := top 17
abbrev N_all_choices : List Str := ["options", "found", "parts", "chosen", "part"]
theorem sc_all_choices : FnScope N_all_choices ["options"] (defScope d_all_choices) := ⟨rfl, rfl, rfl, by decide +kernel, rfl, by decide +kernel, by decide +kernel⟩
abbrev d_are_sizes : Stmt := top 18
abbrev N_are_sizes : List Str := ["rings", "size"]
theorem sc_are_sizes : FnScope N_are_sizes ["rings"] (defScope d_are_sizes) := ⟨rfl, rfl, rfl, by decide +kernel, rfl, by decide +kernel, by decide +kernel⟩
abbrev d_half_places : Stmt := top 19
abbrev N_half_places : List Str := ["place", "size", "double"]
theorem sc_half_places : FnScope N_half_places ["place", "size"] (defScope d_half_places) := ⟨rfl, rfl, rfl, by decide +kernel, rfl, by decide +kernel, by decide +kernel⟩
abbrev d_weighted_sum : Stmt := top 21
abbrev N_weighted_sum : List Str := ["weights", "vector", "weight", "part"]
theorem sc_weighted_sum : FnScope N_weighted_sum ["weights", "vector"] (defScope d_weighted_sum) := ⟨rfl, rfl, rfl, by decide +kernel, rfl, by decide +kernel, by decide +kernel⟩
abbrev d_common_divisor : Stmt := top 22
abbrev N_common_divisor : List Str := ["modulus", "weights", "common", "weight"]
theorem sc_common_divisor : FnScope N_common_divisor ["modulus", "weights"] (defScope d_common_divisor) := ⟨rfl, rfl, rfl, by decide +kernel, rfl, by decide +kernel, by decide +kernel⟩
abbrev d_odd_part : Stmt := top 24
abbrev N_odd_part : List Str := ["size"]
theorem sc_odd_part : FnScope N_odd_part ["size"] (defScope d_odd_part) := ⟨rfl, rfl, rfl, by decide +kernel, rfl, by decide +kernel, by decide +kernel⟩
abbrev d_difference : Stmt := top 25
abbrev N_difference : List Str := ["seat", "other", "place", "base"]
theorem sc_difference : FnScope N_difference ["seat", "other"] (defScope d_difference) := ⟨rfl, rfl, rfl, by decide +kernel, rfl, by decide +kernel, by decide +kernel⟩
abbrev d_shift_basis : Stmt := top 26
abbrev N_shift_basis : List Str := ["sizes", "targets", "odds", "basis", "target", "size"]
theorem sc_shift_basis : FnScope N_shift_basis ["sizes", "targets"] (defScope d_shift_basis) := ⟨rfl, rfl, rfl, by decide +kernel, rfl, by decide +kernel, by decide +kernel⟩
abbrev d_pivot_product : Stmt := top 27
abbrev N_pivot_product : List Str := ["basis", "count", "at", "row"]
theorem sc_pivot_product : FnScope N_pivot_product ["basis"] (defScope d_pivot_product) := ⟨rfl, rfl, rfl, by decide +kernel, rfl, by decide +kernel, by decide +kernel⟩
abbrev d_inverse_column : Stmt := top 28
abbrev N_inverse_column : List Str := ["basis", "modulus", "column", "weights", "at"]
theorem sc_inverse_column : FnScope N_inverse_column ["basis", "modulus", "column"] (defScope d_inverse_column) := ⟨rfl, rfl, rfl, by decide +kernel, rfl, by decide +kernel, by decide +kernel⟩
abbrev d_diagonal : Stmt := top 29
abbrev N_diagonal : List Str := ["entries", "rows", "at", "entry", "row"]
theorem sc_diagonal : FnScope N_diagonal ["entries"] (defScope d_diagonal) := ⟨rfl, rfl, rfl, by decide +kernel, rfl, by decide +kernel, by decide +kernel⟩
abbrev d_with_vector : Stmt := top 30
abbrev N_with_vector : List Str := ["basis", "odds", "vector", "rest", "rows", "at", "row", "pivoted", "factor", "lower", "part", "upper"]
theorem sc_with_vector : FnScope N_with_vector ["basis", "odds", "vector"] (defScope d_with_vector) := ⟨rfl, rfl, rfl, by decide +kernel, rfl, by decide +kernel, by decide +kernel⟩
abbrev d_reduced : Stmt := top 31
abbrev N_reduced : List Str := ["vector", "odds", "part", "odd"]
theorem sc_reduced : FnScope N_reduced ["vector", "odds"] (defScope d_reduced) := ⟨rfl, rfl, rfl, by decide +kernel, rfl, by decide +kernel, by decide +kernel⟩
abbrev d_coset_count : Stmt := top 33
abbrev N_coset_count : List Str := ["table", "targets", "sizes"]
theorem sc_coset_count : FnScope N_coset_count ["table", "targets"] (defScope d_coset_count) := ⟨rfl, rfl, rfl, by decide +kernel, rfl, by decide +kernel, by decide +kernel⟩
abbrev d_reach : Stmt := top 34
abbrev N_reach : List Str := ["table", "targets", "seat", "sizes", "basis", "shift", "modulus", "column", "weights"]
theorem sc_reach : FnScope N_reach ["table", "targets", "seat"] (defScope d_reach) := ⟨rfl, rfl, rfl, by decide +kernel, rfl, by decide +kernel, by decide +kernel⟩
abbrev d_short_witness : Stmt := top 35
abbrev N_short_witness : List Str := ["modulus", "weights", "target", "common", "small", "reduced", "weight"]
theorem sc_short_witness : FnScope N_short_witness ["modulus", "weights", "target"] (defScope d_short_witness) := ⟨rfl, rfl, rfl, by decide +kernel, rfl, by decide +kernel, by decide +kernel⟩
abbrev d_law_mixed : Stmt := top 37
abbrev N_law_mixed : List Str := ["_law_cell", "_law_draw", "_law_number"]
theorem sc_law_mixed : FnScope N_law_mixed ["_law_cell", "_law_draw"] (defScope d_law_mixed) := ⟨rfl, rfl, rfl, by decide +kernel, rfl, by decide +kernel, by decide +kernel⟩
abbrev d_law_source : Stmt := top 38
abbrev N_law_source : List Str := ["_law_cell"]
theorem sc_law_source : FnScope N_law_source ["_law_cell"] (defScope d_law_source) := ⟨rfl, rfl, rfl, by decide +kernel, rfl, by decide +kernel, by decide +kernel⟩
abbrev d_law_take : Stmt := top 39
abbrev N_law_take : List Str := ["_law_source_here", "_law_count", "_law_drawn"]
theorem sc_law_take : FnScope N_law_take ["_law_source_here", "_law_count"] (defScope d_law_take) := ⟨rfl, rfl, rfl, by decide +kernel, rfl, by decide +kernel, by decide +kernel⟩
abbrev d_law_odd_part : Stmt := top 41
abbrev N_law_odd_part : List Str := ["_law_number"]
theorem sc_law_odd_part : FnScope N_law_odd_part ["_law_number"] (defScope d_law_odd_part) := ⟨rfl, rfl, rfl, by decide +kernel, rfl, by decide +kernel, by decide +kernel⟩
abbrev d_law_sum : Stmt := top 42
abbrev N_law_sum : List Str := ["_law_first", "_law_second", "_law_sizes_here", "_law_a", "_law_b", "_law_size"]
theorem sc_law_sum : FnScope N_law_sum ["_law_first", "_law_second", "_law_sizes_here"] (defScope d_law_sum) := ⟨rfl, rfl, rfl, by decide +kernel, rfl, by decide +kernel, by decide +kernel⟩
abbrev d_law_times : Stmt := top 43
abbrev N_law_times : List Str := ["_law_factor", "_law_first", "_law_sizes_here", "_law_place", "_law_size"]
theorem sc_law_times : FnScope N_law_times ["_law_factor", "_law_first", "_law_sizes_here"] (defScope d_law_times) := ⟨rfl, rfl, rfl, by decide +kernel, rfl, by decide +kernel, by decide +kernel⟩
abbrev d_law_seat : Stmt := top 44
abbrev N_law_seat : List Str := ["_law_source_here", "_law_sizes_here", "_law_size"]
theorem sc_law_seat : FnScope N_law_seat ["_law_source_here", "_law_sizes_here"] (defScope d_law_seat) := ⟨rfl, rfl, rfl, by decide +kernel, rfl, by decide +kernel, by decide +kernel⟩
abbrev d_law_sizes : Stmt := top 45
abbrev N_law_sizes : List Str := ["_law_source_here", "_law_some", "_law_k"]
theorem sc_law_sizes : FnScope N_law_sizes ["_law_source_here"] (defScope d_law_sizes) := ⟨rfl, rfl, rfl, by decide +kernel, rfl, by decide +kernel, by decide +kernel⟩
abbrev d_law_check : Stmt := top 48
abbrev N_law_check : List Str := ["_law_source_here", "_law_sizes_here", "_law_board", "_law_goal", "_law_product", "_law_size", "_law_turn", "_law_gap", "_law_due", "_law_half", "_law_word", "_law_place"]
theorem sc_law_check : FnScope N_law_check ["_law_source_here"] (defScope d_law_check) := ⟨rfl, rfl, rfl, by decide +kernel, rfl, by decide +kernel, by decide +kernel⟩
abbrev d_law : Stmt := top 49
abbrev N_law : List Str := ["_law_script", "_law_cell"]
theorem sc_law : FnScope N_law ["_law_script"] (defScope d_law) := ⟨rfl, rfl, rfl, by decide +kernel, rfl, by decide +kernel, by decide +kernel⟩
structure Tx (K : PySem.W.Frag) (mg : Str → Option Value) : Type where
  f_is_integer : Addr
  fd_is_integer : FuncData
  F_is_integer : Fun K "is_integer" "is_integer" d_is_integer f_is_integer fd_is_integer
  b_is_integer : Binds K fd_is_integer ["number"] []
  g_is_integer : mg "is_integer" = some (.ref f_is_integer)
  f_is_seat : Addr
  fd_is_seat : FuncData
  F_is_seat : Fun K "is_seat" "is_seat" d_is_seat f_is_seat fd_is_seat
  b_is_seat : Binds K fd_is_seat ["sizes", "seat"] []
  g_is_seat : mg "is_seat" = some (.ref f_is_seat)
  f_require_seat : Addr
  fd_require_seat : FuncData
  F_require_seat : Fun K "require_seat" "require_seat" d_require_seat f_require_seat fd_require_seat
  b_require_seat : Binds K fd_require_seat ["sizes", "seat"] []
  g_require_seat : mg "require_seat" = some (.ref f_require_seat)
  f_require_seats : Addr
  fd_require_seats : FuncData
  F_require_seats : Fun K "require_seats" "require_seats" d_require_seats f_require_seats fd_require_seats
  b_require_seats : Binds K fd_require_seats ["sizes", "seats"] []
  g_require_seats : mg "require_seats" = some (.ref f_require_seats)
  f_require_targets : Addr
  fd_require_targets : FuncData
  F_require_targets : Fun K "require_targets" "require_targets" d_require_targets f_require_targets fd_require_targets
  b_require_targets : Binds K fd_require_targets ["sizes", "targets"] []
  g_require_targets : mg "require_targets" = some (.ref f_require_targets)
  f_Table_init : Addr
  fd_Table_init : FuncData
  F_Table_init : Fun K "__init__" "Table.__init__" d_Table_init f_Table_init fd_Table_init
  b_Table_init : Binds K fd_Table_init ["self", "rings"] []
  f_Table_sizes : Addr
  fd_Table_sizes : FuncData
  F_Table_sizes : Fun K "sizes" "Table.sizes" d_Table_sizes f_Table_sizes fd_Table_sizes
  b_Table_sizes : Binds K fd_Table_sizes ["self"] []
  f_Table_order : Addr
  fd_Table_order : FuncData
  F_Table_order : Fun K "order" "Table.order" d_Table_order f_Table_order fd_Table_order
  b_Table_order : Binds K fd_Table_order ["self", "seat"] []
  f_Table_halves : Addr
  fd_Table_halves : FuncData
  F_Table_halves : Fun K "halves" "Table.halves" d_Table_halves f_Table_halves fd_Table_halves
  b_Table_halves : Binds K fd_Table_halves ["self", "seat"] []
  f_sizes_of : Addr
  fd_sizes_of : FuncData
  F_sizes_of : Fun K "sizes_of" "sizes_of" d_sizes_of f_sizes_of fd_sizes_of
  b_sizes_of : Binds K fd_sizes_of ["table"] []
  g_sizes_of : mg "sizes_of" = some (.ref f_sizes_of)
  f_all_choices : Addr
  fd_all_choices : FuncData
  F_all_choices : Fun K "all_choices" "all_choices" d_all_choices f_all_choices fd_all_choices
  b_all_choices : Binds K fd_all_choices ["options"] []
  g_all_choices : mg "all_choices" = some (.ref f_all_choices)
  f_are_sizes : Addr
  fd_are_sizes : FuncData
  F_are_sizes : Fun K "_are_sizes" "_are_sizes" d_are_sizes f_are_sizes fd_are_sizes
  b_are_sizes : Binds K fd_are_sizes ["rings"] []
  g_are_sizes : mg "_are_sizes" = some (.ref f_are_sizes)
  f_half_places : Addr
  fd_half_places : FuncData
  F_half_places : Fun K "_half_places" "_half_places" d_half_places f_half_places fd_half_places
  b_half_places : Binds K fd_half_places ["place", "size"] []
  g_half_places : mg "_half_places" = some (.ref f_half_places)
  f_weighted_sum : Addr
  fd_weighted_sum : FuncData
  F_weighted_sum : Fun K "weighted_sum" "weighted_sum" d_weighted_sum f_weighted_sum fd_weighted_sum
  b_weighted_sum : Binds K fd_weighted_sum ["weights", "vector"] []
  g_weighted_sum : mg "weighted_sum" = some (.ref f_weighted_sum)
  f_common_divisor : Addr
  fd_common_divisor : FuncData
  F_common_divisor : Fun K "common_divisor" "common_divisor" d_common_divisor f_common_divisor fd_common_divisor
  b_common_divisor : Binds K fd_common_divisor ["modulus", "weights"] []
  g_common_divisor : mg "common_divisor" = some (.ref f_common_divisor)
  f_odd_part : Addr
  fd_odd_part : FuncData
  F_odd_part : Fun K "odd_part" "odd_part" d_odd_part f_odd_part fd_odd_part
  b_odd_part : Binds K fd_odd_part ["size"] []
  g_odd_part : mg "odd_part" = some (.ref f_odd_part)
  f_difference : Addr
  fd_difference : FuncData
  F_difference : Fun K "difference" "difference" d_difference f_difference fd_difference
  b_difference : Binds K fd_difference ["seat", "other"] []
  g_difference : mg "difference" = some (.ref f_difference)
  f_shift_basis : Addr
  fd_shift_basis : FuncData
  F_shift_basis : Fun K "shift_basis" "shift_basis" d_shift_basis f_shift_basis fd_shift_basis
  b_shift_basis : Binds K fd_shift_basis ["sizes", "targets"] []
  g_shift_basis : mg "shift_basis" = some (.ref f_shift_basis)
  f_pivot_product : Addr
  fd_pivot_product : FuncData
  F_pivot_product : Fun K "pivot_product" "pivot_product" d_pivot_product f_pivot_product fd_pivot_product
  b_pivot_product : Binds K fd_pivot_product ["basis"] []
  g_pivot_product : mg "pivot_product" = some (.ref f_pivot_product)
  f_inverse_column : Addr
  fd_inverse_column : FuncData
  F_inverse_column : Fun K "inverse_column" "inverse_column" d_inverse_column f_inverse_column fd_inverse_column
  b_inverse_column : Binds K fd_inverse_column ["basis", "modulus", "column"] []
  g_inverse_column : mg "inverse_column" = some (.ref f_inverse_column)
  f_diagonal : Addr
  fd_diagonal : FuncData
  F_diagonal : Fun K "_diagonal" "_diagonal" d_diagonal f_diagonal fd_diagonal
  b_diagonal : Binds K fd_diagonal ["entries"] []
  g_diagonal : mg "_diagonal" = some (.ref f_diagonal)
  f_with_vector : Addr
  fd_with_vector : FuncData
  F_with_vector : Fun K "_with_vector" "_with_vector" d_with_vector f_with_vector fd_with_vector
  b_with_vector : Binds K fd_with_vector ["basis", "odds", "vector"] []
  g_with_vector : mg "_with_vector" = some (.ref f_with_vector)
  f_reduced : Addr
  fd_reduced : FuncData
  F_reduced : Fun K "_reduced" "_reduced" d_reduced f_reduced fd_reduced
  b_reduced : Binds K fd_reduced ["vector", "odds"] []
  g_reduced : mg "_reduced" = some (.ref f_reduced)
  f_coset_count : Addr
  fd_coset_count : FuncData
  F_coset_count : Fun K "coset_count" "coset_count" d_coset_count f_coset_count fd_coset_count
  b_coset_count : Binds K fd_coset_count ["table", "targets"] []
  g_coset_count : mg "coset_count" = some (.ref f_coset_count)
  f_reach : Addr
  fd_reach : FuncData
  F_reach : Fun K "reach" "reach" d_reach f_reach fd_reach
  b_reach : Binds K fd_reach ["table", "targets", "seat"] []
  g_reach : mg "reach" = some (.ref f_reach)
  f_short_witness : Addr
  fd_short_witness : FuncData
  F_short_witness : Fun K "_short_witness" "_short_witness" d_short_witness f_short_witness fd_short_witness
  b_short_witness : Binds K fd_short_witness ["modulus", "weights", "target"] []
  g_short_witness : mg "_short_witness" = some (.ref f_short_witness)
  f_law_mixed : Addr
  fd_law_mixed : FuncData
  F_law_mixed : Fun K "_law_mixed" "_law_mixed" d_law_mixed f_law_mixed fd_law_mixed
  b_law_mixed : Binds K fd_law_mixed ["_law_cell", "_law_draw"] []
  g_law_mixed : mg "_law_mixed" = some (.ref f_law_mixed)
  f_law_source : Addr
  fd_law_source : FuncData
  F_law_source : Fun K "_law_source" "_law_source" d_law_source f_law_source fd_law_source
  b_law_source : Binds K fd_law_source ["_law_cell"] []
  g_law_source : mg "_law_source" = some (.ref f_law_source)
  f_law_take : Addr
  fd_law_take : FuncData
  F_law_take : Fun K "_law_take" "_law_take" d_law_take f_law_take fd_law_take
  b_law_take : Binds K fd_law_take ["_law_source_here", "_law_count"] []
  g_law_take : mg "_law_take" = some (.ref f_law_take)
  f_law_odd_part : Addr
  fd_law_odd_part : FuncData
  F_law_odd_part : Fun K "_law_odd_part" "_law_odd_part" d_law_odd_part f_law_odd_part fd_law_odd_part
  b_law_odd_part : Binds K fd_law_odd_part ["_law_number"] []
  g_law_odd_part : mg "_law_odd_part" = some (.ref f_law_odd_part)
  f_law_sum : Addr
  fd_law_sum : FuncData
  F_law_sum : Fun K "_law_sum" "_law_sum" d_law_sum f_law_sum fd_law_sum
  b_law_sum : Binds K fd_law_sum ["_law_first", "_law_second", "_law_sizes_here"] []
  g_law_sum : mg "_law_sum" = some (.ref f_law_sum)
  f_law_times : Addr
  fd_law_times : FuncData
  F_law_times : Fun K "_law_times" "_law_times" d_law_times f_law_times fd_law_times
  b_law_times : Binds K fd_law_times ["_law_factor", "_law_first", "_law_sizes_here"] []
  g_law_times : mg "_law_times" = some (.ref f_law_times)
  f_law_seat : Addr
  fd_law_seat : FuncData
  F_law_seat : Fun K "_law_seat" "_law_seat" d_law_seat f_law_seat fd_law_seat
  b_law_seat : Binds K fd_law_seat ["_law_source_here", "_law_sizes_here"] []
  g_law_seat : mg "_law_seat" = some (.ref f_law_seat)
  f_law_sizes : Addr
  fd_law_sizes : FuncData
  F_law_sizes : Fun K "_law_sizes" "_law_sizes" d_law_sizes f_law_sizes fd_law_sizes
  b_law_sizes : Binds K fd_law_sizes ["_law_source_here"] []
  g_law_sizes : mg "_law_sizes" = some (.ref f_law_sizes)
  f_law_check : Addr
  fd_law_check : FuncData
  F_law_check : Fun K "_law_check" "_law_check" d_law_check f_law_check fd_law_check
  b_law_check : Binds K fd_law_check ["_law_source_here"] []
  g_law_check : mg "_law_check" = some (.ref f_law_check)
  f_law : Addr
  fd_law : FuncData
  F_law : Fun K "law" "law" d_law f_law fd_law
  b_law : Binds K fd_law ["_law_script"] []
  g_law : mg "law" = some (.ref f_law)
  c_Table : Addr
  g_Table : mg "Table" = some (.ref c_Table)
  cl_Table : Cls K c_Table
  M_Table : Mk K c_Table f_Table_init
  m_Table_sizes : Meth K c_Table "sizes" f_Table_sizes
  m_Table_order : Meth K c_Table "order" f_Table_order
  m_Table_halves : Meth K c_Table "halves" f_Table_halves
  no_Table_sizes : NoAttr K c_Table "_sizes"
  ins_Table : C8.InsC K c_Table
  b_gcd : mg "gcd" = some (.builtin "math.gcd")
  b_lcm : mg "lcm" = some (.builtin "math.lcm")
  v_MAX_RINGS : Value
  g_MAX_RINGS : mg "MAX_RINGS" = some v_MAX_RINGS
  r_MAX_RINGS : RelV (.int 4) v_MAX_RINGS
  n_all : mg "all" = none
  n_bool : mg "bool" = none
  n_enumerate : mg "enumerate" = none
  n_int : mg "int" = none
  n_isinstance : mg "isinstance" = none
  n_len : mg "len" = none
  n_list : mg "list" = none
  n_range : mg "range" = none
  n_reversed : mg "reversed" = none
  n_set : mg "set" = none
  n_sum : mg "sum" = none
  n_tuple : mg "tuple" = none
  n_zip : mg "zip" = none
local macro_rules | `(tactic| walk_at "rd") => `(tactic| simp only [cxOf, Cx.nox, Cx.wish, L2.start, tVar, tC, t2I, tIsN, tNotN, tB, tAnd, tOr, tNot, tAndV, tOrV, tNotV, L2.tIf, tNext, tSeq, tBreak, tCont, tDrop, tRet, tRetN, tIfS, tNever, gName, gNil, gCons, gTup, gSub, tAsg, tPar, tPar3, tAug, ipI, tOp, tUn, rI, rI0, rU, rEq, rNe, tTest, tChain, tFld, tCon, sFld, tNil, tCons, tTup, tLst, tCall, tMeth, tMake, tMakeK, tMethK, tCallK, tCallN, tCB, tNoPart, tPart, tSl, rIxL, rIxT, rSetL, rSlL, rAppend, rAll, rIsI, rIsA, tAppend, tLc_eq, tLc2_eq, tFor_eq, tStarH, rGcd, rLcm, iSeqH, iSeqS, iZ2H, iZ3H, iEnH, iRevR, tRg1, tRg2, iRng1H, gTupH, tYes, wipe, scal_int, scal_str, scal_bl, List.map_cons, List.map_nil, List.replicate, List.length_cons, List.length_nil, List.cons_append, List.nil_append, List.append_nil, List.getElem?_cons_zero, List.getElem?_cons_succ, List.set_cons_zero, List.set_cons_succ, Option.some.injEq, V.int.injEq, V.bl.injEq, V.ref.injEq, V.str.injEq, V.ty.injEq, HO.lst.injEq, HO.tup.injEq, HO.ins.injEq, List.cons.injEq, and_true, true_and, and_assoc, exists_and_left, exists_and_right, exists_eq_left, exists_eq_left', exists_eq_right, exists_const, exists_eq, exists_eq', exists_false, exists_prop, false_and, and_false, false_or, or_false, true_or, or_true, List.length_map, Int.natCast_inj, Bool.not_eq_true', decide_eq_false_iff_not, decide_eq_true_eq, List.getElem?_map, Option.map_some, Option.map_none, Option.map_eq_some_iff, upd_same, sz_le, atI_0, atI_1, atI_2, ixN_30, ixN_31, ixN_32, cpow_10, cdivW_small, Int.reduceToNat, Int.reducePow, Int.reduceAdd, Int.reduceSub, Int.reduceMul, Int.reduceNeg, Int.reduceLT, Int.reduceLE, ge_iff_le, gt_iff_lt, Nat.reduceLeDiff, putF_one, lookup_one, Bool.not_true, Bool.not_false, if_true, if_false, Bool.false_eq_true, ite_true, ite_false, Nat.reduceAdd, Nat.reduceSub, Nat.add_zero, Nat.zero_add, Nat.sub_self, reduceCtorEq, decide_true, decide_false, Bool.or_false, Bool.or_true, Bool.and_true, Bool.and_false])
local macro_rules | `(tactic| walk_at "rh") => `(tactic| simp only [cxOf, Cx.nox, Cx.wish, L2.start, tVar, tC, t2I, tIsN, tNotN, tB, tAnd, tOr, tNot, tAndV, tOrV, tNotV, L2.tIf, tNext, tSeq, tBreak, tCont, tDrop, tRet, tRetN, tIfS, tNever, gName, gNil, gCons, gTup, gSub, tAsg, tPar, tPar3, tAug, ipI, tOp, tUn, rI, rI0, rU, rEq, rNe, tTest, tChain, tFld, tCon, sFld, tNil, tCons, tTup, tLst, tCall, tMeth, tMake, tMakeK, tMethK, tCallK, tCallN, tCB, tNoPart, tPart, tSl, rIxL, rIxT, rSetL, rSlL, rAppend, rAll, rIsI, rIsA, tAppend, tLc_eq, tLc2_eq, tFor_eq, tStarH, rGcd, rLcm, iSeqH, iSeqS, iZ2H, iZ3H, iEnH, iRevR, tRg1, tRg2, iRng1H, gTupH, tYes, wipe, scal_int, scal_str, scal_bl, List.map_cons, List.map_nil, List.replicate, List.length_cons, List.length_nil, List.cons_append, List.nil_append, List.append_nil, List.getElem?_cons_zero, List.getElem?_cons_succ, List.set_cons_zero, List.set_cons_succ, Option.some.injEq, V.int.injEq, V.bl.injEq, V.ref.injEq, V.str.injEq, V.ty.injEq, HO.lst.injEq, HO.tup.injEq, HO.ins.injEq, List.cons.injEq, and_true, true_and, and_assoc, exists_and_left, exists_and_right, exists_eq_left, exists_eq_left', exists_eq_right, exists_const, exists_eq, exists_eq', exists_false, exists_prop, false_and, and_false, false_or, or_false, true_or, or_true, List.length_map, Int.natCast_inj, Bool.not_eq_true', decide_eq_false_iff_not, decide_eq_true_eq, List.getElem?_map, Option.map_some, Option.map_none, Option.map_eq_some_iff, upd_same, sz_le, atI_0, atI_1, atI_2, ixN_30, ixN_31, ixN_32, cpow_10, cdivW_small, Int.reduceToNat, Int.reducePow, Int.reduceAdd, Int.reduceSub, Int.reduceMul, Int.reduceNeg, Int.reduceLT, Int.reduceLE, ge_iff_le, gt_iff_lt, Nat.reduceLeDiff, putF_one, lookup_one, Bool.not_true, Bool.not_false, if_true, if_false, Bool.false_eq_true, ite_true, ite_false, Nat.reduceAdd, Nat.reduceSub, Nat.add_zero, Nat.zero_add, Nat.sub_self, reduceCtorEq, decide_true, decide_false, Bool.or_false, Bool.or_true, Bool.and_true, Bool.and_false, *])

/-! ### what the program's checks answer -/
theorem TyOf.same {K : PySem.W.Frag} {H H' : Hp} {x : V} {t : Value} (e : Same H H') (h : TyOf K H x t) : TyOf K H' x t := by
  cases h with
  | non => exact .non
  | bl b => exact .bl b
  | int i => exact .int i
  | str y => exact .str y
  | flt y => exact .flt y
  | lst ea => exact .lst (e _ _ ea)
  | frz ea => exact .frz (e _ _ ea)
  | tup ea => exact .tup (e _ _ ea)
  | dK ea => exact .dK (e _ _ ea)
  | dT ea => exact .dT (e _ _ ea)
  | ins ea cl ha hn htk hm => exact .ins (e _ _ ea) cl ha hn htk hm
theorem TyX.same {K : PySem.W.Frag} {H H' : Hp} {x : V} {t : Value} (e : Same H H') (h : TyX K H x t) : TyX K H' x t := by
  cases h with
  | base b => exact .base (TyOf.same e b)
  | byt b => exact .byt b
  | set ea => exact .set (e _ _ ea)
  | kList a b => exact .kList a b
  | kTuple a b => exact .kTuple a b
  | kDict a b => exact .kDict a b
  | fTuple ea => exact .fTuple (e _ _ ea)
  | fDict ea => exact .fDict (e _ _ ea)
theorem IsI.same {K : PySem.W.Frag} {H H' : Hp} {x c : V} {b : Bool} (e : Same H H') (h : IsI K H x c b) : IsI K H' x c b := by
  obtain ⟨t, u, h1, h2, h3⟩ := h
  exact ⟨t, u, h1, TyX.same e h2, h3⟩
theorem IsA.same {K : PySem.W.Frag} {H H' : Hp} {x : V} {cs : List V} {b : Bool} (e : Same H H') (h : IsA K H x cs b) : IsA K H' x cs b := by
  obtain ⟨t, us, h1, h2, h3⟩ := h
  exact ⟨t, us, h1, TyX.same e h2, h3⟩
/-- is_integer(x) is b -/
def IsInt (K : PySem.W.Frag) (H : Hp) (x : V) (b : Bool) : Prop := ∃ b1 b2, IsI K H x (.ty "int") b1 ∧ (b1 = true → IsI K H x (.ty "bool") b2) ∧ b = (b1 && !b2)
theorem IsInt.same {K : PySem.W.Frag} {H H' : Hp} {x : V} {b : Bool} (e : Same H H') (h : IsInt K H x b) : IsInt K H' x b := by
  obtain ⟨b1, b2, h1, h2, h3⟩ := h
  exact ⟨b1, b2, IsI.same e h1, fun z => IsI.same e (h2 z), h3⟩
theorem isInt_int {K : PySem.W.Frag} {H : Hp} (n : Int) : IsInt K H (.int n) true := ⟨true, false, isI_ty (.base (.int n)) (by decide +kernel), fun _ => isI_ty (.base (.int n)) (by decide +kernel), rfl⟩
/-- is_integer(x) and 0 <= x < s is c -/
def PlaceB (K : PySem.W.Frag) (H : Hp) (x : V) (s : Int) (c : Bool) : Prop := (IsInt K H x false ∧ c = false) ∨ ∃ n, x = .int n ∧ c = (decide (0 ≤ n) && decide (n < s))
theorem PlaceB.same {K : PySem.W.Frag} {H H' : Hp} {x : V} {s : Int} {c : Bool} (e : Same H H') (h : PlaceB K H x s c) : PlaceB K H' x s c := by
  rcases h with ⟨h, q⟩ | h
  · exact .inl ⟨IsInt.same e h, q⟩
  · exact .inr h
/-- is_seat(sizes, x) is b -/
def SeatB (K : PySem.W.Frag) (H : Hp) (ss : List Int) (x : V) (b : Bool) : Prop := (IsI K H x (.ty "tuple") false ∧ b = false) ∨ ∃ p xs, x = .ref p ∧ H p = some (.tup xs) ∧ ((xs.length ≠ ss.length ∧ b = false) ∨
  (xs.length = ss.length ∧ xs.length ≤ sizeLine ∧ ∃ bs : List Bool, bs.length = xs.length ∧ b = bs.all id ∧ ∀ (i : Nat) x s c, xs[i]? = some x → ss[i]? = some s → bs[i]? = some c → PlaceB K H x s c))
/-- is_call(sizes, x) is b -/
def CallB (K : PySem.W.Frag) (H : Hp) (n : Nat) (x : V) (b : Bool) : Prop := (IsI K H x (.ty "tuple") false ∧ b = false) ∨ ∃ p xs, x = .ref p ∧ H p = some (.tup xs) ∧ ((xs.length ≠ n ∧ b = false) ∨
  (xs.length = n ∧ xs.length ≤ sizeLine ∧ ∃ bs : List Bool, bs.length = xs.length ∧ b = bs.all id ∧ ∀ (i : Nat) x c, xs[i]? = some x → bs[i]? = some c → IsInt K H x c))
/-- is_direction(x) is b -/
def DirB (K : PySem.W.Frag) (H : Hp) (x : V) (b : Bool) : Prop := (IsI K H x (.ty "str") false ∧ b = false) ∨ ∃ z : Str, x = .str z ∧ b = (z == "forward" || z == "backward")
/-- _are_sizes(x) is b -/
def SizesB (K : PySem.W.Frag) (H : Hp) (x : V) (b : Bool) : Prop := (IsA K H x [.ty "list", .ty "tuple"] false ∧ b = false) ∨ ∃ k p xs, x = .ref p ∧ Sqh k H p xs ∧ ((¬ (1 ≤ xs.length ∧ xs.length ≤ 4) ∧ b = false) ∨
  (1 ≤ xs.length ∧ xs.length ≤ 4 ∧ ∃ bs : List Bool, bs.length = xs.length ∧ b = bs.all id ∧ ∀ (i : Nat) x c, xs[i]? = some x → bs[i]? = some c → (IsInt K H x false ∧ c = false) ∨ ∃ n, x = .int n ∧ c = decide (1 ≤ n)))
/-- a table at a, of the sizes ss -/
def TabAt (C : Addr) (H : Hp) (a : Addr) (ss : List Int) : Prop := ∃ dx t, H a = some (.ins C dx [("_sizes", .ref t)]) ∧ H t = some (.tup (ss.map V.int))
theorem TabAt.same {C : Addr} {H H' : Hp} {a : Addr} {ss : List Int} (e : Same H H') (h : TabAt C H a ss) : TabAt C H' a ss := by
  obtain ⟨dx, t, h1, h2⟩ := h
  exact ⟨dx, t, e _ _ h1, e _ _ h2⟩
section
variable {P : Program} {w : World} {K : PySem.W.Frag} {mg : Str → Option Value} {base : Heap}
def sp_is_integer (K : PySem.W.Frag) : Sp := fun vs H Q _ => ∃ x b, vs = [x] ∧ IsInt K H x b ∧ Q (.bl b) H
theorem ok_is_integer (T : Tx K mg) : FnOk P w K mg base CX0 1 T.f_is_integer T.fd_is_integer ["number"] (sp_is_integer K) := by
  refine T.F_is_integer.ok sc_is_integer (fun vs H Q E h => ?_) (fun cdv A outer s H vs Q E hr h => ?_)
  · obtain ⟨x, b, rfl, _⟩ := h; rfl
  · obtain ⟨x, b, rfl, ⟨b1, b2, h1, h2, rfl⟩, q⟩ := h
    refine ⟨_, (pss_one (ps_ret (pe_and (pe_callB (call_isIK (K := K) rfl) (by rfl) T.n_isinstance (by decide +kernel) (pa_cons (pv 0) (pa_cons (pe_bltn (v := .ty "int") (by rfl) T.n_int (by decide +kernel) rfl) pa_nil))) (pe_one (pe_not (pe_callB (call_isIK (K := K) rfl) (by rfl) T.n_isinstance (by decide +kernel) (pa_cons (pv 0) (pa_cons (pe_bltn (v := .ty "bool") (by rfl) T.n_bool (by decide +kernel) rfl) pa_nil)))))))), ?_⟩
    walk_at "rd"
    refine ⟨b1, h1, ?_⟩
    cases b1 with
    | false => walk_at "rd"; exact q
    | true =>
      walk_at "rd"
      exact ⟨b2, h2 rfl, q⟩
def sp_is_seat (K : PySem.W.Frag) : Sp := fun vs H Q _ => ∃ k a ss x b, vs = [.ref a, x] ∧ Sqh k H a (ss.map V.int) ∧ SeatB K H ss x b ∧ ∀ H', Same H H' → Q (.bl b) H'
theorem ok_is_seat (T : Tx K mg) : FnOk P w K mg base CX0 1 T.f_is_seat T.fd_is_seat ["sizes", "seat"] (sp_is_seat K) := by
  refine T.F_is_seat.ok sc_is_seat (fun vs H Q E h => ?_) (fun cdv A outer s H vs Q E hr h => ?_)
  · obtain ⟨k, a, ss, x, b, rfl, _⟩ := h; rfl
  · obtain ⟨k, a, ss, x, b, rfl, hs, hb, q⟩ := h
    refine ⟨_, (pss_cons (ps_if (PW.pt (pw_or (pt_not (pt_val (pe_callB (call_isIK (K := K) rfl) (by rfl) T.n_isinstance (by decide +kernel) (pa_cons (pv 1) (pa_cons (pe_bltn (v := .ty "tuple") (by rfl) T.n_tuple (by decide +kernel) rfl) pa_nil))))) (pw_or1 (pt_cmpR op_ne (pe_callB len_H (by rfl) T.n_len PySem.boot_len (pa_cons (pv 1) pa_nil)) (pe_callB len_H (by rfl) T.n_len PySem.boot_len (pa_cons (pv 0) pa_nil)) (nomark _))))) (pss_one (ps_ret pe_bl)) pss_nil)
      (pss_cons (ps_for PassesOwn.never rfl (pi_z2H (by rfl) T.n_zip (pa_cons (pv 1) (pa_cons (pv 0) pa_nil))) (pg_tupH (n := 2) rfl (pgs_cons (pg_name (i := 2) sc_is_seat.nd rfl (Or.inl rfl)) (pgs_cons (pg_name (i := 3) sc_is_seat.nd rfl (Or.inl rfl)) pgs_nil)))
        (pss_one (ps_if (PW.pt (pw_or (pt_not (pt_val (pe_callB (call_isIK (K := K) rfl) (by rfl) T.n_isinstance (by decide +kernel) (pa_cons (pv 2) (pa_cons (pe_bltn (v := .ty "int") (by rfl) T.n_int (by decide +kernel) rfl) pa_nil))))) (pw_or (pt_val (pe_callB (call_isIK (K := K) rfl) (by rfl) T.n_isinstance (by decide +kernel) (pa_cons (pv 2) (pa_cons (pe_bltn (v := .ty "bool") (by rfl) T.n_bool (by decide +kernel) rfl) pa_nil)))) (pw_or1 (pt_not (pt_chain op_le op_lt pe_int (pv 2) (pv 3))))))) (pss_one (ps_ret pe_bl)) pss_nil)))
      (pss_one (ps_ret pe_bl)))), ?_⟩
    walk_at "rd"
    rcases hb with ⟨h1, rfl⟩ | ⟨p, xs, rfl, hp, hb⟩
    · refine ⟨false, h1, ?_⟩
      walk_at "rd"
      exact q _ (Same.refl _)
    · refine ⟨true, isI_tup hp, ?_⟩
      have main : ∀ (hl : xs.length = ss.length) (J : It) (bs : List Bool), xs.length ≤ sizeLine → bs.length = xs.length → b = bs.all id → (∀ (i : Nat) x s c, xs[i]? = some x → ss[i]? = some s → bs[i]? = some c → PlaceB K H x s c) → Walk J xs.length (fun H => Sqh false H p xs ∧ Sqh k H a (ss.map V.int)) (YPair (fun i => xs[i]?) (fun i => (ss.map V.int)[i]?)) →
          ForR J (gTupH 2 (gCons (gName 2) (gCons (gName 3) gNil)))
                    (tIfS
                      (tOr (tNot (tB (tCB (rIsI K) (tCons (tVar 2) (tCons (tC (V.ty "int")) tNil)))))
                        (tOr (tB (tCB (rIsI K) (tCons (tVar 2) (tCons (tC (V.ty "bool")) tNil))))
                          (tNot
                            (tTest
                              (tChain (rI0 fun i j => V.bl (decide (i ≤ j))) (rI0 fun i j => V.bl (decide (i < j)))
                                (tC (V.int 0)) (tVar 2) (tVar 3))))))
                      (tRet (tC (V.bl false))) tNext)
                    { nx := tRet (tC (V.bl true)) { nx := fun x H' => Q V.non H', rt := Q }, rt := Q }
                    [some (V.ref a), some (V.ref p), none, none] H := fun hl J bs hz hbl hb hbs W => by
        subst hb
        refine forr W (fun i σ H' => Same H H' ∧ (∃ v2 v3, σ = [some (V.ref a), some (V.ref p), v2, v3]) ∧ (bs.take i).all id = true) ⟨Same.refl _, ⟨none, none, rfl⟩, rfl⟩ (fun i σ H' _ h => ⟨h.1 _ _ hp, hs.same h.1⟩) ?_ ?_
        · rintro i x σ2 H2 H3 hi ⟨s2, ⟨v2, v3, rfl⟩, hall⟩ ⟨T0, x1, y1, rfl, hT, rfl, e1, e2⟩
          simp only [List.getElem?_map, Option.map_eq_some_iff] at e1 e2
          obtain ⟨s3, hs3, rfl⟩ := e2
          have hib : i < bs.length := by rw [hbl]; exact hi
          have hc := List.getElem?_eq_getElem hib
          have sT := Same.new hT (o := .tup [x1, .int s3])
          have hpl := PlaceB.same (s2.trans sT) (hbs i x1 s3 _ e1 hs3 hc)
          have hno : bs[i] = false → bs.all id = false := fun e => by
            rw [Bool.eq_false_iff]
            intro h
            have := List.all_eq_true.mp h _ (List.getElem_mem hib)
            simp [e] at this
          have hyes : bs[i] = true → (bs.take (i + 1)).all id = true := fun e => by
            rw [List.take_add_one, hc, List.all_append, hall]
            simp [e]
          walk_at "rd"
          generalize upd H2 T0 (HO.tup [x1, V.int s3]) = H3 at sT hpl ⊢
          rcases hpl with ⟨⟨b1, b2, h1, h2, h3⟩, h0⟩ | ⟨n, rfl, h0⟩
          · rw [hno h0] at q
            refine ⟨b1, h1, ?_⟩
            cases b1 with
            | false => walk_at "rd"; exact q _ (s2.trans sT)
            | true =>
              walk_at "rd"
              refine ⟨b2, h2 rfl, ?_⟩
              cases b2 with
              | true => walk_at "rd"; exact q _ (s2.trans sT)
              | false => cases h3
          · rw [isI_int_int]
            walk_at "rd"
            rw [isI_int_bool]
            walk_at "rd"
            by_cases h4 : 0 ≤ n
            · rw [if_pos h4]
              rw [decide_eq_true h4, Bool.true_and] at h0
              by_cases h5 : n < s3
              · rw [if_neg (by omega)]
                exact ⟨s2.trans sT, hyes (by rw [h0, decide_eq_true h5])⟩
              · rw [if_pos (by omega)]
                rw [hno (by rw [h0, decide_eq_false h5])] at q
                exact q _ (s2.trans sT)
            · rw [if_neg h4]
              rw [decide_eq_false h4, Bool.false_and] at h0
              rw [hno h0] at q
              exact q _ (s2.trans sT)
        · rintro σ2 H2 ⟨s2, ⟨v2, v3, rfl⟩, hall⟩
          walk_at "rd"
          rw [← hbl, List.take_length] at hall
          rw [hall] at q
          exact q _ s2
      cases k with
      | true =>
        have hs' : H a = some (.lst (ss.map V.int)) := hs
        walk_at "rh"
        rcases hb with ⟨hl, rfl⟩ | ⟨hl, hz, bs, hbl, e, hbs⟩
        · rw [if_pos hl]; exact q _ (Same.refl _)
        · rw [if_neg (fun h => h hl)]
          exact ⟨false, true, xs, hp, _, hs, by rw [List.length_map]; exact hl, fun J W => main hl J bs hz hbl e hbs W⟩
      | false =>
        have hs' : H a = some (.tup (ss.map V.int)) := hs
        walk_at "rh"
        rcases hb with ⟨hl, rfl⟩ | ⟨hl, hz, bs, hbl, e, hbs⟩
        · rw [if_pos hl]; exact q _ (Same.refl _)
        · rw [if_neg (fun h => h hl)]
          exact ⟨false, false, xs, hp, _, hs, by rw [List.length_map]; exact hl, fun J W => main hl J bs hz hbl e hbs W⟩
/-- is_place(size, x) -/
def sp_is_place (K : PySem.W.Frag) : Sp := fun vs H Q _ => ∃ s x c, vs = [.int s, x] ∧ PlaceB K H x s c ∧ Q (.bl c) H
def sp_is_call (K : PySem.W.Frag) : Sp := fun vs H Q _ => ∃ k a ss x b, vs = [.ref a, x] ∧ Sqh k H a ss ∧ CallB K H ss.length x b ∧ ∀ H', Same H H' → Q (.bl b) H'
def sp_is_direction (K : PySem.W.Frag) : Sp := fun vs H Q _ => ∃ x b, vs = [x] ∧ DirB K H x b ∧ ∀ H', Same H H' → Q (.bl b) H'
def sp_require_seat (K : PySem.W.Frag) : Sp := fun vs H Q _ => ∃ k a ss x, vs = [.ref a, x] ∧ Sqh k H a (ss.map V.int) ∧ SeatB K H ss x true ∧ ∀ H', Same H H' → Q .non H'
theorem ok_require_seat (T : Tx K mg) : FnOk P w K mg base CX0 2 T.f_require_seat T.fd_require_seat ["sizes", "seat"] (sp_require_seat K) := by
  refine T.F_require_seat.ok sc_require_seat (fun vs H Q E h => ?_) (fun cdv A outer s H vs Q E hr h => ?_)
  · obtain ⟨k, a, ss, x, rfl, _⟩ := h; rfl
  · obtain ⟨k, a, ss, x, rfl, hs, hb, q⟩ := h
    refine ⟨_, (pss_one (ps_if (pt_not (pt_val (pe_call (ok_is_seat T) (hr.mono (by decide)) (by rfl) T.g_is_seat T.F_is_seat.kp T.b_is_seat .nil pass0 (pa_cons (pv 0) (pa_cons (pv 1) pa_nil))))) (pss_one ps_never) pss_nil)), ?_⟩
    walk_at "rd"
    refine ⟨k, a, ss, x, true, rfl, hs, hb, fun H' s1 => ?_⟩
    walk_at "rd"
    exact q _ s1
def sp_require_call (K : PySem.W.Frag) : Sp := fun vs H Q _ => ∃ k a ss x, vs = [.ref a, x] ∧ Sqh k H a ss ∧ CallB K H ss.length x true ∧ ∀ H', Same H H' → Q .non H'
def sp_require_direction (K : PySem.W.Frag) : Sp := fun vs H Q _ => ∃ x, vs = [x] ∧ DirB K H x true ∧ ∀ H', Same H H' → Q .non H'
def sp_are_sizes (K : PySem.W.Frag) : Sp := fun vs H Q _ => ∃ x b, vs = [x] ∧ SizesB K H x b ∧ ∀ H', Same H H' → Q (.bl b) H'
theorem ok_are_sizes (T : Tx K mg) : FnOk P w K mg base CX0 2 T.f_are_sizes T.fd_are_sizes ["rings"] (sp_are_sizes K) := by
  refine T.F_are_sizes.ok sc_are_sizes (fun vs H Q E h => ?_) (fun cdv A outer s H vs Q E hr h => ?_)
  · obtain ⟨x, b, rfl, _⟩ := h; rfl
  · obtain ⟨x, b, rfl, hb, q⟩ := h
    refine ⟨_, (pss_cons (ps_if (PW.pt (pw_or (pt_not (pt_val (pe_callB (call_isAK (K := K) rfl) (by rfl) T.n_isinstance (by decide +kernel) (pa_cons (pv 0) (pa_cons (pe_tup (pa_cons (pe_bltn (v := .ty "list") (by rfl) T.n_list (by decide +kernel) rfl) (pa_cons (pe_bltn (v := .ty "tuple") (by rfl) T.n_tuple (by decide +kernel) rfl) pa_nil))) pa_nil))))) (pw_or1 (pt_not (pt_chain op_le op_le pe_int (pe_callB len_H (by rfl) T.n_len PySem.boot_len (pa_cons (pv 0) pa_nil)) (pe_glob (by rfl) T.g_MAX_RINGS T.r_MAX_RINGS)))))) (pss_one (ps_ret pe_bl)) pss_nil)
      (pss_one (ps_ret (pe_callB (all_H rfl) (by rfl) T.n_all (by decide +kernel) (pa_cons (pe_lc (own := [("size", 1)]) (g := (gName 1)) (tt := tYes) rfl sc_are_sizes.nd (pi_seqH (pv 0)) (blkOk_by (own := [("size", 1)]) (N := N_are_sizes) (sc := defScope d_are_sizes) (by decide +kernel)) (fun _ _ _ _ _ => (pg_name (i := 1) sc_are_sizes.nd rfl (Or.inl rfl))) (fun _ _ _ _ _ => pts_nil) (fun _ _ _ _ _ => (pe_and (pe_call (ok_is_integer T) (hr.mono (by decide)) (by rfl) T.g_is_integer T.F_is_integer.kp T.b_is_integer .nil pass0 (pa_cons (pv 1) pa_nil)) (pe_one (pe_cmpR op_ge (pv 1) pe_int (nomark _)))))) pa_nil))))), ?_⟩
    walk_at "rd"
    intro tp htp
    have s1 := Same.new htp (o := .tup [V.ty "list", V.ty "tuple"])
    generalize upd H tp (HO.tup [V.ty "list", V.ty "tuple"]) = H1 at s1 ⊢
    rcases hb with ⟨h1, rfl⟩ | ⟨k, p, xs, rfl, hs, hb⟩
    · refine ⟨false, IsA.same s1 h1, ?_⟩
      rw [if_pos rfl]
      exact q _ s1
    · have hs1 : Sqh k H1 p xs := hs.same s1
      have main : ∀ (J : It) (G : Hp → Prop) (bs : List Bool), xs.length ≤ sizeLine → bs.length = xs.length → b = bs.all id → (∀ (i : Nat) x c, xs[i]? = some x → bs[i]? = some c → (IsInt K H x false ∧ c = false) ∨ ∃ n, x = .int n ∧ c = decide (1 ≤ n)) → (∀ H2, Same H1 H2 → G H2) → Walk J xs.length G (YAt xs) →
          LcR J (gName 1) tYes (tAndV (tCall (sp_is_integer K) [] E0 (tCons (tVar 1) tNil)) (tOp (rI0 fun i j => V.bl (decide (j ≤ i))) (tVar 1) (tC (V.int 1)))) [1] [some (V.ref p), none] H1
            fun x H1 => ∃ p, x = V.ref p ∧ ∃ bs : List Bool, H1 p = some (HO.lst (List.map V.bl bs)) ∧ Q (V.bl (bs.all id)) H1 := fun J G bs hz hbl hb hbs hG W => by
        subst hb
        refine lcr_map W (bs.map V.bl) (by rw [List.length_map]; exact hbl) hz hG (fun _ _ _ _ y => YAt.same y) ?_ ?_
        · intro i x H2 H3 y Qy hi s2 hy hr hq
          obtain ⟨rfl, hx⟩ := hy
          simp only [List.getElem?_map, Option.map_eq_some_iff] at hr
          obtain ⟨c, hc, rfl⟩ := hr
          walk_at "rd"
          rcases hbs i x c hx hc with ⟨h0, rfl⟩ | ⟨n, rfl, rfl⟩
          · refine ⟨_, false, rfl, IsInt.same (s1.trans s2) h0, ?_⟩
            walk_at "rd"
            exact hq _ (Same.refl _)
          · refine ⟨_, true, rfl, isInt_int n, ?_⟩
            walk_at "rd"
            exact hq _ (Same.refl _)
        · intro D H2 hD s2 h1
          exact ⟨D, rfl, bs, h1, q _ (s1.trans s2)⟩
      cases k with
      | true =>
        have hs' : H1 p = some (.lst xs) := hs1
        refine ⟨true, isA_two (.base (.lst hs')) (b1 := true) (b2 := false) (by decide +kernel) (by decide +kernel) rfl, ?_⟩
        walk_at "rh"
        rcases hb with ⟨hl, rfl⟩ | ⟨hl, hz, bs, hbl, e, hbs⟩
        · by_cases h1 : 1 ≤ xs.length
          · rw [if_pos (by omega), if_pos (by omega)]; exact q _ s1
          · rw [if_neg (by omega)]; exact q _ s1
        · rw [if_pos (by omega), if_neg (by omega)]
          exact fun J W => main J _ bs (Nat.le_trans hz (by decide)) hbl e hbs (fun H2 s2 => s2 _ _ hs') W
      | false =>
        have hs' : H1 p = some (.tup xs) := hs1
        refine ⟨true, isA_two (.base (.tup hs')) (b1 := false) (b2 := true) (by decide +kernel) (by decide +kernel) rfl, ?_⟩
        walk_at "rh"
        rcases hb with ⟨hl, rfl⟩ | ⟨hl, hz, bs, hbl, e, hbs⟩
        · by_cases h1 : 1 ≤ xs.length
          · rw [if_pos (by omega), if_pos (by omega)]; exact q _ s1
          · rw [if_neg (by omega)]; exact q _ s1
        · rw [if_pos (by omega), if_neg (by omega)]
          exact fun J W => main J _ bs (Nat.le_trans hz (by decide)) hbl e hbs (fun H2 s2 => s2 _ _ hs') W
/-- an instance is written; all else is as it was -/
def sp_Table_init (K : PySem.W.Frag) (C : Addr) : Sp := fun vs H Q _ => ∃ (a dx : Addr) (x : V) (p : Addr) (k : Bool) (ss : List Int), vs = [.ref a, x] ∧ H a = some (.ins C dx []) ∧ x = .ref p ∧ Sqh k H p (ss.map V.int) ∧ 1 ≤ ss.length ∧ ss.length ≤ 4 ∧ (∀ n ∈ ss, 1 ≤ n) ∧
  ∀ H' t, Sx a H H' → H' a = some (.ins C dx [("_sizes", .ref t)]) → H' t = some (.tup (ss.map V.int)) → Q .non H'
theorem ok_Table_init (T : Tx K mg) : FnOk P w K mg base CX0 3 T.f_Table_init T.fd_Table_init ["self", "rings"] (sp_Table_init K T.c_Table) := by
  refine T.F_Table_init.ok sc_Table_init (fun vs H Q E h => ?_) (fun cdv A outer s H vs Q E hr h => ?_)
  · obtain ⟨a, dx, x, p, k, ss, rfl, _⟩ := h; rfl
  · obtain ⟨a, dx, x, p, k, ss, rfl, ha, rfl, hs, h1, h4, hpos, q⟩ := h
    refine ⟨_, (pss_cons (ps_if (pt_not (pt_val (pe_call (ok_are_sizes T) (hr.mono (by decide)) (by rfl) T.g_are_sizes T.F_are_sizes.kp T.b_are_sizes .nil pass0 (pa_cons (pv 1) pa_nil)))) (pss_one ps_never) pss_nil)
      (pss_one (ps_fld (pv 0) (pe_callTy tuple_H (by rfl) T.n_tuple (by decide +kernel) (pa_cons (pv 1) pa_nil)) rfl))), ?_⟩
    walk_at "rd"
    refine ⟨_, true, rfl, .inr ⟨k, p, ss.map V.int, rfl, hs, .inr ⟨by rw [List.length_map]; exact h1, by rw [List.length_map]; exact h4, List.replicate ss.length true, by simp, by simp, fun i x c hx hc => ?_⟩⟩, fun H1 s1 => ?_⟩
    · simp only [List.getElem?_map, Option.map_eq_some_iff] at hx
      obtain ⟨n, hn, rfl⟩ := hx
      have hi : i < ss.length := (List.getElem?_eq_some_iff.mp hn).1
      rw [List.getElem?_replicate, if_pos hi] at hc
      refine .inr ⟨n, rfl, ?_⟩
      rw [decide_eq_true (hpos n (List.mem_of_getElem? hn))]
      exact (Option.some.inj hc).symm
    · have ha1 := s1 _ _ ha
      have hs1 := hs.same s1
      have cl := T.cl_Table
      have no := T.no_Table_sizes
      walk_at "rd"
      cases k with
      | true =>
        have hs' : H1 p = some (.lst (ss.map V.int)) := hs1
        walk_at "rh"
        intro l hl
        have e1 : upd H1 l (.tup (ss.map V.int)) a = some (.ins T.c_Table dx []) := by rw [upd_old hl (by rw [ha1]; simp)]; exact ha1
        rw [e1]
        refine ⟨_, _, _, rfl, cl, no, by decide, ?_⟩
        have nla : l ≠ a := fun e => by rw [e, ha1] at hl; cases hl
        exact q _ l (Sx.trans (Sx.of (s1.trans (Same.new hl))) Sx.put) upd_same (by rw [upd_ne nla]; exact upd_same)
      | false =>
        have hs' : H1 p = some (.tup (ss.map V.int)) := hs1
        walk_at "rh"
        have npa : p ≠ a := ne_two hs' ha1 (by simp)
        exact ⟨by decide, q _ p (Sx.trans (Sx.of s1) Sx.put) upd_same (by rw [upd_ne npa]; exact hs')⟩
def sp_Table_sizes (K : PySem.W.Frag) (C : Addr) : Sp := fun vs H Q _ => ∃ (a : Addr) (ss : List Int), vs = [.ref a] ∧ TabAt C H a ss ∧ ∀ t, H t = some (.tup (ss.map V.int)) → Q (.ref t) H
theorem ok_Table_sizes (T : Tx K mg) : FnOk P w K mg base CX0 1 T.f_Table_sizes T.fd_Table_sizes ["self"] (sp_Table_sizes K T.c_Table) := by
  refine T.F_Table_sizes.ok sc_Table_sizes (fun vs H Q E h => ?_) (fun cdv A outer s H vs Q E hr h => ?_)
  · obtain ⟨a, ss, rfl, _⟩ := h; rfl
  · obtain ⟨a, ss, rfl, ⟨dx, t, h1, h2⟩, q⟩ := h
    refine ⟨_, (pss_one (ps_ret (pe_fld (pv 0) rfl))), ?_⟩
    have cl := T.cl_Table
    have no := T.no_Table_sizes
    walk_at "rh"
def prodI (ss : List Int) : Int := ss.foldl (fun a b => a * b) 1
theorem prodI_take {ss : List Int} {i : Nat} {n : Int} (h : ss[i]? = some n) : prodI (ss.take (i + 1)) = prodI (ss.take i) * n := by
  unfold prodI
  rw [List.take_add_one, h, List.foldl_append]
  rfl
theorem prodI_small {B : Nat} : ∀ {ss : List Int}, (∀ n ∈ ss, n.natAbs < 2 ^ B) → (prodI ss).natAbs < 2 ^ (B * ss.length + 1) := by
  have gen : ∀ (ss : List Int) (a : Int) (A : Nat), (∀ n ∈ ss, n.natAbs < 2 ^ B) → a.natAbs < 2 ^ A → (ss.foldl (fun a b => a * b) a).natAbs < 2 ^ (A + B * ss.length) := by
    intro ss
    induction ss with
    | nil => intro a A _ h; simpa using h
    | cons x r ih =>
      intro a A h ha
      have h1 : (a * x).natAbs < 2 ^ (A + B) := wide_lt ha (h x (List.mem_cons_self ..))
      have h2 := ih (a * x) (A + B) (fun n hn => h n (List.mem_cons_of_mem _ hn)) h1
      rw [List.length_cons, Nat.mul_succ, show A + (B * r.length + B) = A + B + B * r.length by omega]
      exact h2
  intro ss h
  have q := gen ss 1 1 h (by decide)
  rw [Nat.add_comm 1] at q
  exact q
/-- the sizes of a table that is used: 1 to 4, each of at most 1000 bits -/
structure Sz (ss : List Int) : Prop where
  lo : 1 ≤ ss.length
  hi : ss.length ≤ 4
  pos : ∀ n ∈ ss, 1 ≤ n
  bits : ∀ n ∈ ss, n.natAbs < 2 ^ 1000
theorem Sz.mul {ss : List Int} (z : Sz ss) {i : Nat} {n : Int} (h : ss[i]? = some n) : CMulW (prodI (ss.take i)) n := by
  have h1 := prodI_small (B := 1000) (ss := ss.take i) fun n hn => z.bits n (List.mem_of_mem_take hn)
  have h2 := z.bits n (List.mem_of_getElem? h)
  have h3 : (ss.take i).length ≤ 4 := Nat.le_trans (by rw [List.length_take]; omega) z.hi
  exact wide_mul h1 h2 (by omega) (by omega) (by omega)
def sp_Table_count (K : PySem.W.Frag) (C : Addr) : Sp := fun vs H Q _ => ∃ (a : Addr) (ss : List Int), vs = [.ref a] ∧ TabAt C H a ss ∧ Sz ss ∧ Q (.int (prodI ss)) H
/-- the places of the steps -/
def mv (g : Int → Int → Int) : List Int → List Int → List Int → List Int
  | p :: ps, c :: cs, s :: ss => (g p c % s) :: mv g ps cs ss
  | _, _, _ => []
theorem mv_len {g : Int → Int → Int} : ∀ {ps cs ss : List Int}, ps.length = cs.length → cs.length = ss.length → (mv g ps cs ss).length = ps.length
  | [], [], [], _, _ => rfl
  | p :: ps, c :: cs, s :: ss, h1, h2 => by
    show (mv g ps cs ss).length + 1 = ps.length + 1
    rw [mv_len (by simpa using h1) (by simpa using h2)]
theorem mv_get {g : Int → Int → Int} : ∀ {ps cs ss : List Int} {i : Nat} {p c s : Int}, ps[i]? = some p → cs[i]? = some c → ss[i]? = some s → (mv g ps cs ss)[i]? = some (g p c % s)
  | p :: ps, c :: cs, s :: ss, 0, _, _, _, h1, h2, h3 => by
    simp only [List.getElem?_cons_zero, Option.some.injEq] at h1 h2 h3
    subst h1 h2 h3
    rfl
  | p :: ps, c :: cs, s :: ss, i + 1, _, _, _, h1, h2, h3 => mv_get (ps := ps) (cs := cs) (ss := ss) (i := i) h1 h2 h3
  | [], _, _, _, _, _, _, h, _, _ => by simp at h
  | _ :: _, [], _, _, _, _, _, _, h, _ => by simp at h
  | _ :: _, _ :: _, [], _, _, _, _, _, _, h => by simp at h
/-- ps a seat of the sizes ss -/
structure Seat (ss ps : List Int) : Prop where
  len : ps.length = ss.length
  ok : ∀ (i : Nat) p s, ps[i]? = some p → ss[i]? = some s → 0 ≤ p ∧ p < s
theorem Seat.b {K : PySem.W.Frag} {H : Hp} {ss ps : List Int} {p : Addr} (h : Seat ss ps) (z : Sz ss) (hp : H p = some (.tup (ps.map V.int))) : SeatB K H ss (.ref p) true := by
  refine .inr ⟨p, _, rfl, hp, .inr ⟨by rw [List.length_map]; exact h.len, ?_, List.replicate ps.length true, by simp, by simp, fun i x s c hx hs hc => ?_⟩⟩
  · have h4 := z.hi
    have hl := h.len
    rw [List.length_map]
    exact Nat.le_trans (by omega : ps.length ≤ 4) (by decide)
  · simp only [List.getElem?_map, Option.map_eq_some_iff] at hx
    obtain ⟨n, hn, rfl⟩ := hx
    have hi : i < ps.length := (List.getElem?_eq_some_iff.mp hn).1
    rw [List.getElem?_replicate, if_pos hi] at hc
    obtain ⟨h1, h2⟩ := h.ok i n s hn hs
    refine .inr ⟨n, rfl, ?_⟩
    rw [decide_eq_true h1, decide_eq_true h2]
    exact (Option.some.inj hc).symm
theorem call_b {K : PySem.W.Frag} {H : Hp} {cs : List Int} {n : Nat} {p : Addr} (h : cs.length = n) (hn : n ≤ 4) (hp : H p = some (.tup (cs.map V.int))) : CallB K H n (.ref p) true := by
  refine .inr ⟨p, _, rfl, hp, .inr ⟨by rw [List.length_map]; exact h, ?_, List.replicate cs.length true, by simp, by simp, fun i x c hx hc => ?_⟩⟩
  · rw [List.length_map]
    exact Nat.le_trans (by omega : cs.length ≤ 4) (by decide)
  · simp only [List.getElem?_map, Option.map_eq_some_iff] at hx
    obtain ⟨m, hm, rfl⟩ := hx
    have hi : i < cs.length := (List.getElem?_eq_some_iff.mp hm).1
    rw [List.getElem?_replicate, if_pos hi] at hc
    obtain rfl := Option.some.inj hc
    exact isInt_int m
def fw (p c : Int) : Int := p + c
def bw (p c : Int) : Int := p - c
def sp_Table_moves (K : PySem.W.Frag) (C : Addr) : Sp := fun vs H Q _ => ∃ (a p c : Addr) (ss ps cs : List Int), vs = [.ref a, .ref p, .ref c] ∧ TabAt C H a ss ∧ Sz ss ∧ H p = some (.tup (ps.map V.int)) ∧ Seat ss ps ∧ H c = some (.tup (cs.map V.int)) ∧ cs.length = ss.length ∧
  ∀ H' r f b, Same H H' → H' r = some (.tup [.ref f, .ref b]) → H' f = some (.tup ((mv fw ps cs ss).map V.int)) → H' b = some (.tup ((mv bw ps cs ss).map V.int)) → Q (.ref r) H'
def sp_Table_step (K : PySem.W.Frag) (C : Addr) : Sp := fun vs H Q _ => ∃ (a p c : Addr) (z : Str) (ss ps cs : List Int), vs = [.ref a, .ref p, .ref c, .str z] ∧ TabAt C H a ss ∧ Sz ss ∧ H p = some (.tup (ps.map V.int)) ∧ Seat ss ps ∧ H c = some (.tup (cs.map V.int)) ∧ cs.length = ss.length ∧ (z = "forward" ∨ z = "backward") ∧
  ∀ H' f, Same H H' → H' f = some (.tup ((mv (if z = "forward" then fw else bw) ps cs ss).map V.int)) → Q (.ref f) H'
end

/-- lists of ints at the addresses as -/
def AsL (H : Hp) (as : List Addr) (rows : List (List Int)) : Prop := as.length = rows.length ∧ ∀ (i : Nat) t r, as[i]? = some t → rows[i]? = some r → H t = some (.lst (r.map V.int))
theorem AsL.same {H H' : Hp} {as : List Addr} {rows : List (List Int)} (e : Same H H') (h : AsL H as rows) : AsL H' as rows := ⟨h.1, fun i t r h1 h2 => e _ _ (h.2 i t r h1 h2)⟩
theorem AsL.nil {H : Hp} : AsL H [] [] := ⟨rfl, fun i t r h _ => by simp at h⟩
theorem AsL.snoc {H : Hp} {as : List Addr} {rows : List (List Int)} {t : Addr} {r : List Int} (h : AsL H as rows) (ht : H t = some (.lst (r.map V.int))) : AsL H (as ++ [t]) (rows ++ [r]) := by
  refine ⟨by rw [List.length_append, List.length_append, h.1]; rfl, fun i u g h1 h2 => ?_⟩
  by_cases hlt : i < as.length
  · rw [List.getElem?_append_left hlt] at h1
    rw [List.getElem?_append_left (by rw [← h.1]; exact hlt)] at h2
    exact h.2 i u g h1 h2
  · rw [List.getElem?_append_right (by omega)] at h1
    rw [List.getElem?_append_right (by rw [← h.1]; omega), ← h.1] at h2
    cases hk : i - as.length with
    | zero =>
      rw [hk] at h1 h2
      simp only [List.getElem?_cons_zero, Option.some.injEq] at h1 h2
      rw [← h1, ← h2]; exact ht
    | succ m => rw [hk] at h1; simp at h1
theorem AsL.put {H : Hp} {as : List Addr} {rows : List (List Int)} {D : Addr} {o : HO} (h : AsL H as rows) (hd : ∀ t ∈ as, t ≠ D) : AsL (upd H D o) as rows :=
  ⟨h.1, fun i t r h1 h2 => by rw [upd_ne (hd t (List.mem_of_getElem? h1))]; exact h.2 i t r h1 h2⟩
theorem row_ne {H : Hp} {t D : Addr} {r : List Int} {bs : List Addr} (h1 : H t = some (.lst (r.map V.int))) (h2 : H D = some (.lst (bs.map V.ref))) (h : r ≠ []) : t ≠ D := fun e => by
  rw [e, h2] at h1
  have h3 : bs.map V.ref = r.map V.int := by
    have := Option.some.inj h1
    injection this
  cases r with
  | nil => exact h rfl
  | cons x r => cases bs <;> simp at h3
theorem AsL.ne {H : Hp} {as : List Addr} {rows : List (List Int)} {D : Addr} {bs : List Addr} (h : AsL H as rows) (hD : H D = some (.lst (bs.map V.ref))) (hr : ∀ r ∈ rows, r ≠ []) : ∀ t ∈ as, t ≠ D := fun t ht => by
  obtain ⟨i, hi, e⟩ := List.getElem_of_mem ht
  have hi2 : i < rows.length := by rw [← h.1]; exact hi
  exact row_ne (h.2 i t rows[i] (by rw [List.getElem?_eq_getElem hi, e]) (List.getElem?_eq_getElem hi2)) hD (hr _ (List.getElem_mem hi2))
/-- a list of lists of ints, at a -/
def LstL (H : Hp) (a : Addr) (rows : List (List Int)) : Prop := ∃ as : List Addr, H a = some (.lst (as.map V.ref)) ∧ AsL H as rows
theorem LstL.same {H H' : Hp} {a : Addr} {rows : List (List Int)} (e : Same H H') (h : LstL H a rows) : LstL H' a rows := by
  obtain ⟨as, h1, h2⟩ := h
  exact ⟨as, e _ _ h1, h2.same e⟩

/-! ### order and halves -/
section
variable {P : Program} {w : World} {K : PySem.W.Frag} {mg : Str → Option Value} {base : Heap}
/-- one ring's part of an order -/
def ordS (c : Nat) (z : Int × Int) : Nat := Nat.lcm c (z.2 / ((Nat.gcd z.1.natAbs z.2.natAbs : Nat) : Int)).natAbs
def ordI (ps ss : List Int) : Nat := (ps.zip ss).foldl ordS 1
theorem ord_take {ps ss : List Int} {i : Nat} {p s : Int} (hp : ps[i]? = some p) (hs : ss[i]? = some s) : ((ps.zip ss).take (i + 1)).foldl ordS 1 = ordS (((ps.zip ss).take i).foldl ordS 1) (p, s) := by
  have h : (ps.zip ss)[i]? = some (p, s) := by
    rw [List.getElem?_zip_eq_some]
    exact ⟨hp, hs⟩
  rw [List.take_add_one, h, List.foldl_append]
  rfl
theorem ord_small {B : Nat} : ∀ (zs : List (Int × Int)) (c A : Nat), (∀ z ∈ zs, 1 ≤ z.2 ∧ z.2.natAbs < 2 ^ B) → c < 2 ^ A → zs.foldl ordS c < 2 ^ (A + B * zs.length)
  | [], c, A, _, h => by simpa using h
  | z :: zs, c, A, hz, hc => by
    obtain ⟨h1, h2⟩ := hz z (List.mem_cons_self ..)
    have hq : (z.2 / ((Nat.gcd z.1.natAbs z.2.natAbs : Nat) : Int)).natAbs ≤ z.2.natAbs := by
      have := Int.natAbs_ediv_le_natAbs z.2 ((Nat.gcd z.1.natAbs z.2.natAbs : Nat) : Int)
      exact this
    have h3 : ordS c z < 2 ^ (A + B) := by
      have e1 : ordS c z ≤ c * (z.2 / ((Nat.gcd z.1.natAbs z.2.natAbs : Nat) : Int)).natAbs := lcm_le_mul _ _
      rw [Nat.pow_add]
      exact Nat.lt_of_le_of_lt e1 (Nat.mul_lt_mul'' hc (Nat.lt_of_le_of_lt hq h2))
    have h4 := ord_small (B := B) zs (ordS c z) (A + B) (fun y hy => hz y (List.mem_cons_of_mem _ hy)) h3
    rw [List.length_cons, Nat.mul_succ, show A + (B * zs.length + B) = A + B + B * zs.length by omega]
    exact h4
theorem mem_zip_sz {ss ps : List Int} (z : Sz ss) : ∀ y ∈ ps.zip ss, 1 ≤ y.2 ∧ y.2.natAbs < 2 ^ 1000 := fun y hy => by
  obtain ⟨p, s⟩ := y
  have h := (List.of_mem_zip hy).2
  exact ⟨z.pos s h, z.bits s h⟩
def sp_Table_order (K : PySem.W.Frag) (C : Addr) : Sp := fun vs H Q _ => ∃ (a p : Addr) (ss ps : List Int), vs = [.ref a, .ref p] ∧ TabAt C H a ss ∧ Sz ss ∧ H p = some (.tup (ps.map V.int)) ∧ Seat ss ps ∧ ∀ H', Same H H' → Q (.int (ordI ps ss : Nat)) H'
theorem ok_Table_order (T : Tx K mg) : FnOk P w K mg base CX0 3 T.f_Table_order T.fd_Table_order ["self", "seat"] (sp_Table_order K T.c_Table) := by
  refine T.F_Table_order.ok sc_Table_order (fun vs H Q E h => ?_) (fun cdv A outer s H vs Q E hr h => ?_)
  · obtain ⟨a, p, ss, ps, rfl, _⟩ := h; rfl
  · obtain ⟨a, p, ss, ps, rfl, ⟨dx, t, h1, h2⟩, z, hp, hS, q⟩ := h
    refine ⟨_, (pss_cons (ps_expr (pe_call (ok_require_seat T) (hr.mono (by decide)) (by rfl) T.g_require_seat T.F_require_seat.kp T.b_require_seat .nil pass0 (pa_cons (pe_fld (pv 0) rfl) (pa_cons (pv 1) pa_nil))))
      (pss_cons (ps_set (i := 2) sc_Table_order.nd rfl (Or.inl rfl) pe_int)
      (pss_cons (ps_for PassesOwn.never rfl (pi_z2H (by rfl) T.n_zip (pa_cons (pv 1) (pa_cons (pe_fld (pv 0) rfl) pa_nil))) (pg_tupH (n := 2) rfl (pgs_cons (pg_name (i := 3) sc_Table_order.nd rfl (Or.inl rfl)) (pgs_cons (pg_name (i := 4) sc_Table_order.nd rfl (Or.inl rfl)) pgs_nil)))
        (pss_one (ps_set (i := 2) sc_Table_order.nd rfl (Or.inl rfl) (pe_callBfun cr_lcm (by rfl) T.b_lcm (pa_cons (pv 2) (pa_cons (pe_op op_fdivW (pv 4) (pe_callBfun cr_gcd (by rfl) T.b_gcd (pa_cons (pv 3) (pa_cons (pv 4) pa_nil)))) pa_nil))))))
      (pss_one (ps_ret (pv 2)))))), ?_⟩
    have cl := T.cl_Table
    have no := T.no_Table_sizes
    walk_at "rh"
    refine ⟨false, t, ss, .ref p, rfl, h2, hS.b z hp, fun H1 s1 => ?_⟩
    have h21 := s1 _ _ h2
    have hp1 := s1 _ _ hp
    refine ⟨_, _, _, s1 _ _ h1, cl, no, _, lookup_one _ _, t, rfl, false, false, ps.map V.int, hp1, ss.map V.int, h21, by rw [List.length_map, List.length_map, hS.len], fun J W => ?_⟩
    refine forr W (fun i σ H' => Same H H' ∧ ∃ v3 v4, σ = [some (V.ref a), some (V.ref p), some (V.int ((((ps.zip ss).take i).foldl ordS 1 : Nat) : Int)), v3, v4]) ⟨s1, none, none, rfl⟩ (fun i σ H' _ hp' => ⟨hp'.1 _ _ hp, hp'.1 _ _ h2⟩) ?_ ?_
    · rintro i x σ H2 H3 hi ⟨s2, v3, v4, rfl⟩ ⟨T0, x1, y1, rfl, hT, rfl, e1, e2⟩
      simp only [List.getElem?_map, Option.map_eq_some_iff] at e1 e2
      obtain ⟨p0, hp0, rfl⟩ := e1
      obtain ⟨s0, hs0, rfl⟩ := e2
      have hs1 := z.pos s0 (List.mem_of_getElem? hs0)
      have hb := z.bits s0 (List.mem_of_getElem? hs0)
      have hg : 0 < Nat.gcd p0.natAbs s0.natAbs := Nat.gcd_pos_of_pos_right _ (by omega)
      have hgs : Nat.gcd p0.natAbs s0.natAbs ≤ s0.natAbs := Nat.gcd_le_right _ (by omega)
      have hlen : ((ps.zip ss).take i).length ≤ 4 := by
        have := z.hi
        rw [List.length_take, List.length_zip]
        omega
      have hc : ((ps.zip ss).take i).foldl ordS 1 < 2 ^ 6000 := by
        have h3 := ord_small (B := 1000) ((ps.zip ss).take i) 1 1 (fun y hy => mem_zip_sz z y (List.mem_of_mem_take hy)) (by decide)
        exact Nat.lt_of_lt_of_le h3 (Nat.pow_le_pow_right (by decide) (by omega))
      walk_at "rd"
      refine ⟨wide_div (b := 1000) (by omega) (by rw [Int.natAbs_natCast]; omega) (by decide) (by decide), ?_, ?_, s2.trans (Same.new hT), ?_⟩
      · rw [Int.natAbs_natCast]; exact hc
      · have h4 := Int.natAbs_ediv_le_natAbs s0 ((Nat.gcd p0.natAbs s0.natAbs : Nat) : Int)
        exact Nat.lt_of_le_of_lt h4 (Nat.lt_of_lt_of_le hb (Nat.pow_le_pow_right (by decide) (by decide)))
      · rw [ord_take hp0 hs0, Int.natAbs_natCast]
        rfl
    · rintro σ H2 ⟨s2, v3, v4, rfl⟩
      walk_at "rd"
      have e : (ps.zip ss).take ((ps.map V.int).length) = ps.zip ss := List.take_of_length_le (by rw [List.length_zip, List.length_map]; omega)
      rw [List.length_map] at e
      rw [e]
      exact q _ s2
/-- the halves of a place -/
def hpl (p s : Int) : List Int := ([p, p + s].filter fun d => d % 2 == 0).map fun d => d / 2
def sp_half_places (K : PySem.W.Frag) : Sp := fun vs H Q _ => ∃ p s : Int, vs = [.int p, .int s] ∧ ∀ H' l, Same H H' → H l = none → H' l = some (.lst ((hpl p s).map V.int)) → Q (.ref l) H'
theorem ok_half_places (T : Tx K mg) : FnOk P w K mg base CX0 1 T.f_half_places T.fd_half_places ["place", "size"] (sp_half_places K) := by
  refine T.F_half_places.ok sc_half_places (fun vs H Q E h => ?_) (fun cdv A outer s H vs Q E hr h => ?_)
  · obtain ⟨p, s, rfl, _⟩ := h; rfl
  · obtain ⟨p, s, rfl, q⟩ := h
    refine ⟨_, (pss_one (ps_ret (pe_lc (own := [("double", 2)]) (g := (gName 2)) rfl sc_half_places.nd (pi_seqH (pe_tup (pa_cons (pv 0) (pa_cons (pe_op op_add (pv 0) (pv 1)) pa_nil)))) (blkOk_by (own := [("double", 2)]) (N := N_half_places) (sc := defScope d_half_places) (by decide +kernel)) (fun _ _ _ _ _ => (pg_name (i := 2) sc_half_places.nd rfl (Or.inl rfl))) (fun _ _ _ _ _ => (pts_one (pt_cmpR op_eq (pe_op op_mod (pv 2) pe_int) pe_int (nomark _)))) (fun _ _ _ _ _ => (pe_op op_fdivW (pv 2) pe_int))))), ?_⟩
    walk_at "rd"
    intro t ht J W
    have s1 := Same.new ht (o := .tup [.int p, .int (p + s)])
    have f1 : (upd H t (.tup [.int p, .int (p + s)])) t = some (.tup [.int p, .int (p + s)]) := upd_same
    generalize upd H t (HO.tup [.int p, .int (p + s)]) = H1 at s1 f1 ⊢
    have hg : ∀ (i : Nat) x, ([V.int p, V.int (p + s)] : List V)[i]? = some x → ∃ d, x = V.int d ∧ ([p, p + s] : List Int)[i]? = some d := fun i x hx => by
      have : ([V.int p, V.int (p + s)] : List V) = ([p, p + s] : List Int).map V.int := rfl
      rw [this, List.getElem?_map, Option.map_eq_some_iff] at hx
      obtain ⟨d, h1, h2⟩ := hx
      exact ⟨d, h2.symm, h1⟩
    refine lcr_if W (fun D i acc H' => Same H1 H' ∧ acc = (((([p, p + s] : List Int).take i).filter fun d => d % 2 == 0).map fun d => d / 2).map V.int) (by show 2 < sizeLine; decide) (fun D hD => ⟨Same.new hD, by simp⟩) (fun D i acc H' hD hi h e => h.1 _ _ f1) (fun D i acc H' l hD h hn => ⟨fun b o e => ?_, h.2⟩) ?_ ?_
    · rw [upd_ne (ne_some e hD)]; exact h.1 b o e
    · rintro D i acc x H2 H3 Qn Qy hD hi ⟨s2, ha⟩ e ⟨rfl, hx⟩ hn hy
      obtain ⟨d, rfl, hd⟩ := hg i x hx
      walk_at "rd"
      by_cases h : d % 2 = 0
      · rw [if_pos h]
        refine hy _ _ e ⟨s2, ?_⟩
        rw [ha, List.take_add_one, hd]
        simp [List.filter_append, h]
      · rw [if_neg h]
        refine hn _ e ⟨s2, ?_⟩
        rw [ha, List.take_add_one, hd]
        simp [List.filter_append, h]
    · rintro D acc H2 hD hl ⟨s2, ha⟩ e
      have hHD : H D = none := by
        cases e2 : H D with
        | none => rfl
        | some o => rw [s1 _ _ e2] at hD; cases hD
      refine q _ D (s1.trans s2) hHD ?_
      rw [e, ha]
      rfl
def halF (found : List (List Int)) (z : Int × Int) : List (List Int) := found.flatMap fun h => (hpl z.1 z.2).map fun x => h ++ [x]
def halI (ps ss : List Int) : List (List Int) := (ps.zip ss).foldl halF [[]]
theorem hpl_len (p s : Int) : (hpl p s).length ≤ 2 := by
  unfold hpl
  rw [List.length_map]
  exact List.length_filter_le _ _
theorem flat_len (f : List Int → List (List Int)) (hf : ∀ h, (f h).length ≤ 2) : ∀ hss : List (List Int), (hss.flatMap f).length ≤ 2 * hss.length
  | [] => by simp
  | h :: hss => by
    rw [List.flatMap_cons, List.length_append, List.length_cons]
    have h1 := hf h
    have h2 := flat_len f hf hss
    omega
theorem halF_len (found : List (List Int)) (z : Int × Int) : (halF found z).length ≤ 2 * found.length := flat_len _ (fun h => by rw [List.length_map]; exact hpl_len _ _) found
theorem hal_len : ∀ (zs : List (Int × Int)) (found : List (List Int)), (zs.foldl halF found).length ≤ 2 ^ zs.length * found.length
  | [], found => by simp
  | z :: zs, found => by
    have h1 := hal_len zs (halF found z)
    have h2 := halF_len found z
    rw [List.foldl_cons, List.length_cons, Nat.pow_succ, Nat.mul_assoc]
    exact Nat.le_trans h1 (Nat.mul_le_mul_left _ h2)
theorem hal_take {ps ss : List Int} {i : Nat} {p s : Int} (hp : ps[i]? = some p) (hs : ss[i]? = some s) : ((ps.zip ss).take (i + 1)).foldl halF [[]] = halF (((ps.zip ss).take i).foldl halF [[]]) (p, s) := by
  have h : (ps.zip ss)[i]? = some (p, s) := by
    rw [List.getElem?_zip_eq_some]
    exact ⟨hp, hs⟩
  rw [List.take_add_one, h, List.foldl_append]
  rfl
theorem hal_in : ∀ (zs : List (Int × Int)) (found : List (List Int)) (k : Nat), (∀ h ∈ found, h.length ≤ k) → ∀ h ∈ zs.foldl halF found, h.length ≤ k + zs.length
  | [], found, k, hf, h, hh => by simpa using hf h hh
  | z :: zs, found, k, hf, h, hh => by
    rw [List.foldl_cons] at hh
    have h1 := hal_in zs (halF found z) (k + 1) (fun g hg => by
      simp only [halF, List.mem_flatMap, List.mem_map] at hg
      obtain ⟨f, hf1, x, hx, rfl⟩ := hg
      rw [List.length_append]
      have := hf f hf1
      simp
      omega) h hh
    rw [List.length_cons]
    omega
/-- one list's part of the choices -/
def choF (found : List (List Int)) (parts : List Int) : List (List Int) := found.flatMap fun h => parts.map fun x => h ++ [x]
def choI (rows : List (List Int)) : List (List Int) := rows.foldl choF [[]]
theorem choF_len (parts : List Int) : ∀ found : List (List Int), (choF found parts).length = found.length * parts.length
  | [] => by simp [choF]
  | h :: found => by
    have ih := choF_len parts found
    unfold choF at ih ⊢
    rw [List.flatMap_cons, List.length_append, ih, List.length_map, List.length_cons, Nat.succ_mul]
    omega
theorem cho_take {rows : List (List Int)} {i : Nat} {r : List Int} (h : rows[i]? = some r) : (rows.take (i + 1)).foldl choF [[]] = choF ((rows.take i).foldl choF [[]]) r := by
  rw [List.take_add_one, h, List.foldl_append]
  rfl
theorem cho_in : ∀ (rows found : List (List Int)) (k : Nat), (∀ h ∈ found, h.length ≤ k) → ∀ h ∈ rows.foldl choF found, h.length ≤ k + rows.length
  | [], found, k, hf, h, hh => by simpa using hf h hh
  | z :: zs, found, k, hf, h, hh => by
    rw [List.foldl_cons] at hh
    have h1 := cho_in zs (choF found z) (k + 1) (fun g hg => by
      simp only [choF, List.mem_flatMap, List.mem_map] at hg
      obtain ⟨f, hf1, x, hx, rfl⟩ := hg
      rw [List.length_append]
      have := hf f hf1
      simp
      omega) h hh
    rw [List.length_cons]
    omega
def sp_all_choices (K : PySem.W.Frag) : Sp := fun vs H Q _ => ∃ (o : Addr) (rows : List (List Int)), vs = [.ref o] ∧ LstL H o rows ∧ rows.length ≤ 4 ∧ (∀ i, ((rows.take i).foldl choF [[]]).length ≤ 1000) ∧ (∀ r ∈ rows, r.length ≤ 1000) ∧ ∀ H' l, Same H H' → H l = none → LstT H' l (choI rows) → Q (.ref l) H'
theorem ok_all_choices (T : Tx K mg) : FnOk P w K mg base CX0 1 T.f_all_choices T.fd_all_choices ["options"] (sp_all_choices K) := by
  refine T.F_all_choices.ok sc_all_choices (fun vs H Q E h => ?_) (fun cdv A outer s H vs Q E hr h => ?_)
  · obtain ⟨o, rows, rfl, _⟩ := h; rfl
  · obtain ⟨o, rows, rfl, ⟨os, ho, hO⟩, h4, hpre, hrow, q⟩ := h
    refine ⟨_, (pss_cons (ps_set (i := 1) sc_all_choices.nd rfl (Or.inl rfl) (pe_lst (pa_cons (pe_tup pa_nil) pa_nil)))
      (pss_cons (ps_for PassesOwn.never rfl (pi_seqH (pv 0)) (pg_name (i := 2) sc_all_choices.nd rfl (Or.inr rfl))
        (pss_one (ps_setLc2 (i := 1) (own := [("chosen", 3), ("part", 4)]) (g := (gName 3)) (tt := tYes) (vs1 := [4]) (g1 := (gName 4)) (tt1 := tYes) rfl sc_all_choices.nd rfl rfl (sw_true rfl rfl rfl (by decide +kernel)) (pi_seqH (pv 1)) (blkOk_by (own := [("chosen", 3), ("part", 4)]) (N := N_all_choices) (sc := defScope d_all_choices) (by decide +kernel)) (by decide) (fun _ _ _ _ _ => (pg_name (i := 3) sc_all_choices.nd rfl (Or.inl rfl))) (fun _ _ _ _ _ => pts_nil) (fun _ _ _ _ _ => (pi_seqH (pv 2))) (fun _ _ _ _ _ => (pg_name (i := 4) sc_all_choices.nd rfl (Or.inl rfl))) (fun _ _ _ _ _ => pts_nil) (fun _ _ _ _ _ => (pe_tup (pa_starH (pv 3) (pa_cons (pv 4) pa_nil)))))))
      (pss_one (ps_ret (pv 1))))), ?_⟩
    walk_at "rd"
    intro p1 hp1 p2 hp2
    have s2 := Same.new hp1 (o := .tup [])
    have f2 : (upd H p1 (.tup [])) p1 = some (.tup []) := upd_same
    generalize upd H p1 (HO.tup []) = H2 at s2 f2 hp2 ⊢
    have s3 := Same.new hp2 (o := .lst [V.ref p1])
    have f3 : (upd H2 p2 (.lst [V.ref p1])) p2 = some (.lst [V.ref p1]) := upd_same
    generalize upd H2 p2 (HO.lst [V.ref p1]) = H3 at s3 f3 ⊢
    have s03 := s2.trans s3
    have nn : ∀ {G : Hp} {u : Addr}, Same H G → G u = none → H u = none := fun {G u} e h => by
      cases e2 : H u with
      | none => rfl
      | some o => rw [e _ _ e2] at h; cases h
    refine .inl ⟨_, s03 _ _ ho, fun J W => ?_⟩
    refine forr W (fun i σ H' => Same H H' ∧ ∃ (L : Addr) (v2 v3 v4 : Option V), σ = [some (V.ref o), some (V.ref L), v2, v3, v4] ∧ H L = none ∧ LstT H' L ((rows.take i).foldl choF [[]])) ⟨s03, p2, none, none, none, rfl, nn s2 hp2, [p1], f3, rfl, fun i t' hs' h1' h2' => ?_⟩ (fun i σ H' _ h => h.1 _ _ ho) ?_ ?_
    · cases i with
      | zero =>
        simp only [List.getElem?_cons_zero, Option.some.injEq] at h1'
        simp only [List.take_zero, List.foldl_nil, List.getElem?_cons_zero, Option.some.injEq] at h2'
        rw [← h1', ← h2']
        exact s3 _ _ f2
      | succ i => simp at h1'
    · rintro i x σ H5o H5 hi ⟨s4, L, v2, v3, v4, rfl, hL, hT⟩ ⟨rfl, hx⟩
      simp only [List.getElem?_map, Option.map_eq_some_iff] at hx
      obtain ⟨ra, hra, rfl⟩ := hx
      rw [List.length_map, hO.1] at hi
      have hr := List.getElem?_eq_getElem hi
      have hl6 := s4 _ _ (hO.2 i ra _ hra hr)
      have hrl := hrow _ (List.getElem_mem hi)
      walk_at "rd"
      obtain ⟨as, hLa, hA⟩ := hT
      generalize hfound : (rows.take i).foldl choF [[]] = found at hA
      have hfl : found.length ≤ 1000 := by rw [← hfound]; exact hpre i
      generalize hparts : rows[i] = parts at *
      refine .inl ⟨as.map V.ref, hLa, fun J2 W2 => ?_⟩
      refine lc2_gen W2 (fun D i2 acc Hx => Same H5 Hx ∧ ∃ bs : List Addr, acc = bs.map V.ref ∧ AsT Hx bs (choF (found.take i2) parts)) (fun D hD => ⟨Same.new hD, [], rfl, AsT.nil⟩) (fun D i2 acc Hx hD hi2 h e => h.1 _ _ hLa) ?_ ?_
      · rintro D i2 acc x Hx Hx' Nx hD hi2 ⟨sx, bs, rfl, hB⟩ e ⟨rfl, hx⟩ hN
        rw [List.getElem?_map, Option.map_eq_some_iff] at hx
        obtain ⟨u, hu, rfl⟩ := hx
        rw [List.length_map] at hi2
        have hi3 : i2 < found.length := by rw [← hA.1]; exact hi2
        have hf : found[i2]? = some found[i2] := List.getElem?_eq_getElem hi3
        have hu6 := hA.2 i2 u _ hu hf
        have ht2 : choF (found.take (i2 + 1)) parts = choF (found.take i2) parts ++ parts.map fun x => found[i2] ++ [x] := by
          unfold choF
          rw [List.take_add_one, hf, List.flatMap_append]
          simp
        walk_at "rd"
        refine .inl ⟨_, sx _ _ hl6, fun J3 W3 => ?_⟩
        refine lc1_gen W3 (fun j acc Hy => Same H5 Hy ∧ ∃ bs : List Addr, acc = bs.map V.ref ∧ AsT Hy bs (choF (found.take i2) parts ++ (parts.take j).map fun x => found[i2] ++ [x])) ⟨_, ⟨sx, bs, rfl, by simpa using hB⟩, e⟩ (fun j acc Hy hj h e => h.1 _ _ hl6) (fun j acc Hy l' l0 h hn => ⟨fun b o e3 => ?_, ?_⟩) ?_ ?_ ?_
        · have hbD : b ≠ D := ne_some e3 hD
          rw [upd_ne hbD]; exact h.1 b o e3
        · obtain ⟨_, bs2, rfl, hB2⟩ := h
          refine ⟨bs2, rfl, hB2.1, fun i' t' hs' h1' h2' => ?_⟩
          have h3' := hB2.2 i' t' hs' h1' h2'
          rw [upd_ne (fun e => by rw [e, hn] at h3'; cases h3')]
          exact h3'
        · rintro j acc Hy ⟨_, bs2, rfl, hB2⟩
          rw [List.length_map, hB2.1, List.length_append, List.length_map, choF_len]
          have h3 : (found.take i2).length ≤ 1000 := by rw [List.length_take]; omega
          have h4 : (parts.take j).length ≤ 1000 := by rw [List.length_take]; omega
          have h5 : (found.take i2).length * parts.length ≤ 1000 * 1000 := Nat.mul_le_mul h3 hrl
          exact Nat.lt_of_le_of_lt (by omega : _ ≤ 2000000) (by decide)
        · rintro j acc y Hy Hy' Qy hj ⟨sy, bs2, rfl, hB2⟩ e3 ⟨rfl, hy⟩ hQ
          rw [List.getElem?_map, Option.map_eq_some_iff] at hy
          obtain ⟨m, hm, rfl⟩ := hy
          walk_at "rd"
          refine ⟨_, sy _ _ hu6, ?_⟩
          rw [show (found[i2].map V.int ++ [V.int m] : List V) = (found[i2] ++ [m]).map V.int by rw [List.map_append]; rfl]
          have hln : found[i2].length ≤ 4 := by
            have h3 := cho_in (rows.take i) [[]] 0 (fun h hh => by rw [List.mem_singleton] at hh; rw [hh]; decide) found[i2] (by rw [hfound]; exact List.getElem_mem hi3)
            rw [List.length_take] at h3
            omega
          refine ⟨by rw [List.length_map, List.length_append]; exact Nat.le_trans (Nat.add_le_add_right hln 1) (by decide), fun q3 hq3 => ?_⟩
          have s7 := Same.new hq3 (o := .tup ((found[i2] ++ [m]).map V.int))
          refine hQ _ _ (s7 _ _ e3) ⟨sy.trans s7, bs2 ++ [q3], by rw [List.map_append]; rfl, ?_⟩
          have e8 : (fun x => found[i2] ++ [x]) <$> (parts.take (j + 1)) = (parts.take j).map (fun x => found[i2] ++ [x]) ++ [found[i2] ++ [m]] := by
            rw [List.take_add_one, hm]
            show List.map _ _ = _
            rw [List.map_append]
            rfl
          have e9 := (hB2.same s7).snoc (t := q3) (hs := found[i2] ++ [m]) upd_same
          rw [List.append_assoc, ← e8] at e9
          exact e9
        · rintro acc Hy ⟨sy, bs2, rfl, hB2⟩ e3
          refine hN _ Hy e3 ⟨sy, bs2, rfl, ?_⟩
          rw [ht2]
          rw [List.length_map, List.take_length] at hB2
          exact hB2
      · rintro D acc Hx hD ⟨sx, bs, rfl, hB⟩ e
        have hHD : H D = none := nn s4 hD
        refine ⟨s4.trans sx, D, rfl, hHD, bs, e, ?_⟩
        rw [cho_take hr, hfound]
        rw [List.length_map, hA.1, List.take_length] at hB
        exact hB
    · rintro σ H4 ⟨s4, L, v2, v3, v4, rfl, hL, hT⟩
      walk_at "rd"
      rw [List.length_map, hO.1, List.take_length] at hT
      exact q _ L s4 hL hT
/-- a comprehension whose elements are new lists of ints -/
theorem lcr_lists {J : It} {n : Nat} {G : Hp → Prop} {Y : Nat → Hp → V → Hp → Prop} (W : Walk J n G Y) {g : TG} {te : TE} {vs : List Nat} {σ : L2.St} {H : Hp} {Q : VK} (rows : List (List Int)) (hl : rows.length = n) (hn : n ≤ sizeLine) (hG : ∀ H3, Same H H3 → G H3)
    (hY : ∀ i x H H', Y i H x H' → Same H H')
    (hte : ∀ i x H1 H2 r (Qy : VK), i < n → Same H H1 → Y i H1 x H2 → rows[i]? = some r → (∀ p H4, Same H2 H4 → H2 p = none → H4 p = some (.lst (r.map V.int)) → Qy (.ref p) H4) → g x (wipe σ vs) H2 fun σ2 H2 => wipe σ2 vs = wipe σ vs ∧ te σ2 H2 Qy)
    (hq : ∀ D H3, H D = none → Same H H3 → LstL H3 D rows → Q (.ref D) H3) : LcR J g tYes te vs σ H Q := fun D hD => by
  refine lc_gen W (fun i acc H' => Same H H' ∧ ∃ bs : List Addr, acc = bs.map V.ref ∧ AsL H' bs (rows.take i) ∧ ∀ b ∈ bs, b ≠ D) hn ⟨Same.new hD, [], rfl, AsL.nil, by simp⟩ (fun i acc H' _ h _ => hG _ h.1) (fun i acc H' l h hn => ?_) (fun i acc x H1 H2 Qy hi ha h e hy hq => ?_) (fun acc H' ha h e => ?_)
  · obtain ⟨h1, bs, rfl, hB, hb⟩ := h
    exact ⟨fun b o e => by rw [upd_ne (ne_some e hD)]; exact h1 b o e, bs, rfl, hB.put hb, hb⟩
  · obtain ⟨h1, bs, rfl, hB, hb⟩ := h
    have hi2 : i < rows.length := by omega
    have hr := List.getElem?_eq_getElem hi2
    have e2 := hY _ _ _ _ hy _ _ e
    refine hte i x H1 H2 _ _ hi h1 hy hr fun p H4 s4 hp f4 => ?_
    refine hq _ _ (s4 _ _ e2) ⟨h1.trans ((hY _ _ _ _ hy).trans s4), bs ++ [p], by rw [List.map_append]; rfl, ?_, fun b hb2 => ?_⟩
    · rw [List.take_add_one, hr]
      exact (hB.same ((hY _ _ _ _ hy).trans s4)).snoc f4
    · rcases List.mem_append.mp hb2 with h | h
      · exact hb b h
      · rw [List.mem_singleton.mp h]
        exact fun e3 => by rw [e3, e2] at hp; cases hp
  · obtain ⟨h1, bs, rfl, hB, hb⟩ := h
    rw [← hl, List.take_length] at hB
    exact hq D H' hD h1 ⟨bs, e, hB⟩
def sp_Table_halves (K : PySem.W.Frag) (C : Addr) : Sp := fun vs H Q _ => ∃ (a p : Addr) (ss ps : List Int), vs = [.ref a, .ref p] ∧ TabAt C H a ss ∧ Sz ss ∧ H p = some (.tup (ps.map V.int)) ∧ Seat ss ps ∧ ∀ H' l, Same H H' → H l = none → LstT H' l (halI ps ss) → Q (.ref l) H'
def hrows (ps ss : List Int) : List (List Int) := (ps.zip ss).map fun z => hpl z.1 z.2
theorem hrows_get {ps ss : List Int} {i : Nat} {p s : Int} (hp : ps[i]? = some p) (hs : ss[i]? = some s) : (hrows ps ss)[i]? = some (hpl p s) := by
  have h : (ps.zip ss)[i]? = some (p, s) := by
    rw [List.getElem?_zip_eq_some]
    exact ⟨hp, hs⟩
  unfold hrows
  rw [List.getElem?_map, h]
  rfl
theorem cho_hal (zs : List (Int × Int)) : ∀ found : List (List Int), (zs.map fun z => hpl z.1 z.2).foldl choF found = zs.foldl halF found := by
  induction zs with
  | nil => intro found; rfl
  | cons z zs ih => intro found; rw [List.map_cons, List.foldl_cons, List.foldl_cons, ih]; rfl
theorem hal_cho (ps ss : List Int) (i : Nat) : ((hrows ps ss).take i).foldl choF [[]] = ((ps.zip ss).take i).foldl halF [[]] := by
  unfold hrows
  rw [← List.map_take, cho_hal]
theorem ok_Table_halves (T : Tx K mg) : FnOk P w K mg base CX0 3 T.f_Table_halves T.fd_Table_halves ["self", "seat"] (sp_Table_halves K T.c_Table) := by
  refine T.F_Table_halves.ok sc_Table_halves (fun vs H Q E h => ?_) (fun cdv A outer s H vs Q E hr h => ?_)
  · obtain ⟨a, p, ss, ps, rfl, _⟩ := h; rfl
  · obtain ⟨a, p, ss, ps, rfl, ⟨dx, t, h1, h2⟩, z, hp, hS, q⟩ := h
    refine ⟨_, (pss_cons (ps_expr (pe_call (ok_require_seat T) (hr.mono (by decide)) (by rfl) T.g_require_seat T.F_require_seat.kp T.b_require_seat .nil pass0 (pa_cons (pe_fld (pv 0) rfl) (pa_cons (pv 1) pa_nil))))
      (pss_one (ps_ret (pe_call (ok_all_choices T) (hr.mono (by decide)) (by rfl) T.g_all_choices T.F_all_choices.kp T.b_all_choices .nil pass0 (pa_cons (pe_lc (own := [("place", 2), ("size", 3)]) (g := (gTupH 2 (gCons (gName 2) (gCons (gName 3) gNil)))) (tt := tYes) rfl sc_Table_halves.nd (pi_z2H (by rfl) T.n_zip (pa_cons (pv 1) (pa_cons (pe_fld (pv 0) rfl) pa_nil))) (blkOk_by (own := [("place", 2), ("size", 3)]) (N := N_Table_halves) (sc := defScope d_Table_halves) (by decide +kernel)) (fun _ _ _ _ _ => (pg_tupH (n := 2) rfl (pgs_cons (pg_name (i := 2) sc_Table_halves.nd rfl (Or.inl rfl)) (pgs_cons (pg_name (i := 3) sc_Table_halves.nd rfl (Or.inl rfl)) pgs_nil)))) (fun _ _ _ _ _ => pts_nil) (fun _ _ _ _ _ => (pe_call (ok_half_places T) (hr.mono (by decide)) (by rfl) T.g_half_places T.F_half_places.kp T.b_half_places .nil pass0 (pa_cons (pv 2) (pa_cons (pv 3) pa_nil))))) pa_nil))))), ?_⟩
    have cl := T.cl_Table
    have no := T.no_Table_sizes
    walk_at "rh"
    refine ⟨false, t, ss, .ref p, rfl, h2, hS.b z hp, fun H1 s1 => ?_⟩
    refine ⟨_, _, _, s1 _ _ h1, cl, no, _, lookup_one _ _, t, rfl, false, false, ps.map V.int, s1 _ _ hp, ss.map V.int, s1 _ _ h2, by rw [List.length_map, List.length_map, hS.len], fun J W => ?_⟩
    have hzl : (ps.zip ss).length = ps.length := by rw [List.length_zip, hS.len, Nat.min_self]
    have hrl : (hrows ps ss).length = (ps.map V.int).length := by unfold hrows; rw [List.length_map, List.length_map, hzl]
    have hp4 : ps.length ≤ 4 := by rw [hS.len]; exact z.hi
    refine lcr_lists W (hrows ps ss) hrl (by rw [List.length_map]; exact Nat.le_trans hp4 (by decide)) (fun H3 s3 => ⟨s3 _ _ (s1 _ _ hp), s3 _ _ (s1 _ _ h2)⟩) (fun _ _ _ _ y => YPair.same y) ?_ ?_
    · rintro i x H3 H4 r Qy hi s3 ⟨T0, x1, y1, rfl, hT0, rfl, e1, e2⟩ hr hq
      simp only [List.getElem?_map, Option.map_eq_some_iff] at e1 e2
      obtain ⟨p0, hp0, rfl⟩ := e1
      obtain ⟨s0, hs0, rfl⟩ := e2
      rw [hrows_get hp0 hs0] at hr
      obtain rfl := Option.some.inj hr
      walk_at "rd"
      exact ⟨p0, s0, rfl, fun H' l s' hn hl => hq l H' s' hn hl⟩
    · intro D H3 hD s3 hL
      refine ⟨D, hrows ps ss, rfl, hL, by rw [hrl, List.length_map]; exact hp4, fun i => ?_, fun r hr => ?_, fun H4 l s4 hn hl => ?_⟩
      · rw [hal_cho]
        have h3 := hal_len ((ps.zip ss).take i) [[]]
        have h4 : ((ps.zip ss).take i).length ≤ 4 := by rw [List.length_take]; omega
        have h5 : 2 ^ ((ps.zip ss).take i).length ≤ 2 ^ 4 := Nat.pow_le_pow_right (by decide) h4
        simp only [List.length_cons, List.length_nil, Nat.zero_add, Nat.mul_one] at h3
        omega
      · unfold hrows at hr
        obtain ⟨zz, _, rfl⟩ := List.mem_map.mp hr
        have := hpl_len zz.1 zz.2
        omega
      · have e : choI (hrows ps ss) = halI ps ss := cho_hal _ _
        rw [e] at hl
        have s01 := s1.trans s3
        have hn0 : H l = none := by
          cases e2 : H l with
          | none => rfl
          | some o => rw [s01 _ _ e2] at hn; cases hn
        exact q _ l (s01.trans s4) hn0 hl
end

/-! ### reach -/
section
variable {P : Program} {w : World} {K : PySem.W.Frag} {mg : Str → Option Value} {base : Heap}
theorem isI_own {C a dx : Addr} {fs : List (Str × V)} {H : Hp} (c : C8.InsC K C) (ha : H a = some (.ins C dx fs)) : IsI K H (.ref a) (.ref C) true := ⟨_, _, .own C, .base (.ins ha c.cl c.ha c.hn c.htk c.hm), c.me⟩
def sp_sizes_of (K : PySem.W.Frag) (C : Addr) : Sp := fun vs H Q _ => ∃ (a : Addr) (ss : List Int), vs = [.ref a] ∧ TabAt C H a ss ∧ ∀ t, H t = some (.tup (ss.map V.int)) → Q (.ref t) H
theorem ok_sizes_of (T : Tx K mg) : FnOk P w K mg base CX0 2 T.f_sizes_of T.fd_sizes_of ["table"] (sp_sizes_of K T.c_Table) := by
  refine T.F_sizes_of.ok sc_sizes_of (fun vs H Q E h => ?_) (fun cdv A outer s H vs Q E hr h => ?_)
  · obtain ⟨a, ss, rfl, _⟩ := h; rfl
  · obtain ⟨a, ss, rfl, hT, q⟩ := h
    refine ⟨_, (pss_cons (ps_if (pt_not (pt_val (pe_callB (call_isIK (K := K) rfl) (by rfl) T.n_isinstance (by decide +kernel) (pa_cons (pv 0) (pa_cons (pe_glob (v := .ref T.c_Table) (by rfl) T.g_Table rfl) pa_nil))))) (pss_one ps_never) pss_nil)
      (pss_one (ps_ret (pe_meth0 (pv 0) T.cl_Table T.m_Table_sizes (ok_Table_sizes T) (hr.mono (by decide)) T.b_Table_sizes .nil pass0)))), ?_⟩
    obtain ⟨dx, t, h1, h2⟩ := id hT
    walk_at "rd"
    refine ⟨true, isI_own T.ins_Table h1, ?_⟩
    rw [if_neg (by decide)]
    have e : (("sizes" : Str) == ("_sizes" : Str)) = false := by decide +kernel
    exact ⟨_, _, h1, by simp [List.lookup, e], a, ss, rfl, hT, q⟩
def dot : List Int → List Int → Int
  | x :: xs, y :: ys => x * y + dot xs ys
  | _, _ => 0
theorem dot_sum : ∀ xs ys : List Int, (List.zipWith (· * ·) xs ys).sum = dot xs ys
  | [], _ => by simp [dot]
  | _ :: _, [] => by simp [dot]
  | x :: xs, y :: ys => by
    rw [List.zipWith_cons_cons, List.sum_cons, dot_sum xs ys]
    rfl
theorem zw_get {g : Int → Int → Int} {xs ys : List Int} {i : Nat} {x y : Int} (hx : xs[i]? = some x) (hy : ys[i]? = some y) : (List.zipWith g xs ys)[i]? = some (g x y) := by
  rw [List.getElem?_zipWith, hx, hy]
/-- [g(x, y) for x, y in zip(xs, ys)] -/
theorem lcr_two {J : It} {xs ys : List Int} {G : Hp → Prop} {Q : VK} {te : TE} {σ : L2.St} {H : Hp} {p q : Nat} {g : TG} (hlen : xs.length = ys.length) (hs : xs.length ≤ 64) (φ : Int → Int → Int)
    (W : Walk J (xs.map V.int).length G (YPair (fun i => (xs.map V.int)[i]?) fun i => (ys.map V.int)[i]?)) (hG : ∀ H3, Same H H3 → G H3)
    (hg : ∀ (T0 : Addr) (x y : Int) (H3 : Hp) (R : L2.St → Hp → Prop), H3 T0 = some (.tup [V.int x, V.int y]) → R ((σ.set p (some (V.int x))).set q (some (V.int y))) H3 → g (.ref T0) (wipe σ [p, q]) H3 R)
    (hw : ∀ (x y : Option V), wipe ((σ.set p x).set q y) [p, q] = wipe σ [p, q])
    (hte : ∀ (i : Nat) (x y : Int) (Qy : VK) H3, xs[i]? = some x → ys[i]? = some y → Qy (.int (φ x y)) H3 → te ((σ.set p (some (V.int x))).set q (some (V.int y))) H3 Qy)
    (hq : ∀ D H3, H D = none → Same H H3 → H3 D = some (.lst ((List.zipWith φ xs ys).map V.int)) → Q (.ref D) H3) : LcR J g tYes te [p, q] σ H Q := by
  refine lcr_map W ((List.zipWith φ xs ys).map V.int) (by simp [hlen]) (by rw [List.length_map]; exact Nat.le_trans hs (by decide)) hG (fun _ _ _ _ y => YPair.same y) ?_ hq
  intro i x H3 H4 y Qy hi s3 hy hr hq
  obtain ⟨T0, x1, y1, rfl, hT, rfl, e1, e2⟩ := hy
  simp only [List.getElem?_map, Option.map_eq_some_iff] at hr e1 e2
  obtain ⟨x2, hx2, rfl⟩ := e1
  obtain ⟨y2, hy2, rfl⟩ := e2
  rw [zw_get hx2 hy2] at hr
  obtain ⟨r, hr, rfl⟩ := hr
  obtain rfl := Option.some.inj hr
  exact hg T0 x2 y2 _ _ upd_same ⟨hw _ _, hte i x2 y2 Qy _ hx2 hy2 (hq _ (Same.refl _))⟩
def sp_weighted_sum (K : PySem.W.Frag) : Sp := fun vs H Q _ => ∃ (k1 k2 : Bool) (a b : Addr) (xs ys : List Int), vs = [.ref a, .ref b] ∧ Sqh k1 H a (xs.map V.int) ∧ Sqh k2 H b (ys.map V.int) ∧ xs.length = ys.length ∧ xs.length ≤ 64 ∧
  (∀ (i : Nat) x y, xs[i]? = some x → ys[i]? = some y → CMulA x y) ∧ ∀ H', Same H H' → Q (.int (dot xs ys)) H'
theorem ok_weighted_sum (T : Tx K mg) : FnOk P w K mg base CX0 1 T.f_weighted_sum T.fd_weighted_sum ["weights", "vector"] (sp_weighted_sum K) := by
  refine T.F_weighted_sum.ok sc_weighted_sum (fun vs H Q E h => ?_) (fun cdv A outer s H vs Q E hr h => ?_)
  · obtain ⟨k1, k2, a, b, xs, ys, rfl, _⟩ := h; rfl
  · obtain ⟨k1, k2, a, b, xs, ys, rfl, hx, hy, hl, h64, hm, q⟩ := h
    refine ⟨_, (pss_one (ps_ret (pe_callB (cr_sum rfl) (by rfl) T.n_sum (by decide +kernel) (pa_cons (pe_lc (own := [("weight", 2), ("part", 3)]) (g := (gTupH 2 (gCons (gName 2) (gCons (gName 3) gNil)))) (tt := tYes) rfl sc_weighted_sum.nd (pi_z2H (by rfl) T.n_zip (pa_cons (pv 0) (pa_cons (pv 1) pa_nil))) (blkOk_by (own := [("weight", 2), ("part", 3)]) (N := N_weighted_sum) (sc := defScope d_weighted_sum) (by decide +kernel)) (fun _ _ _ _ _ => (pg_tupH (n := 2) rfl (pgs_cons (pg_name (i := 2) sc_weighted_sum.nd rfl (Or.inl rfl)) (pgs_cons (pg_name (i := 3) sc_weighted_sum.nd rfl (Or.inl rfl)) pgs_nil)))) (fun _ _ _ _ _ => pts_nil) (fun _ _ _ _ _ => (pe_op op_mulA (pv 2) (pv 3)))) pa_nil)))), ?_⟩
    walk_at "rd"
    refine ⟨k1, k2, xs.map V.int, hx, ys.map V.int, hy, by rw [List.length_map, List.length_map, hl], fun J W => ?_⟩
    refine lcr_two (p := 2) (q := 3) hl h64 (fun x y => x * y) W (fun H3 s3 => ⟨hx.same s3, hy.same s3⟩) (fun T0 x y H3 R hT hR => ?_) (fun x y => rfl) (fun i x y Qy H3 h1 h2 hq => ?_) fun D H3 hD s3 h3 => ?_
    · walk_at "rh"
      exact hR
    · walk_at "rd"
      exact ⟨hm i x y h1 h2, hq⟩
    · refine ⟨D, List.zipWith (fun x y => x * y) xs ys, rfl, .inl (.inl h3), ?_⟩
      rw [show (List.zipWith (fun x y => x * y) xs ys).sum = dot xs ys from dot_sum xs ys]
      exact q _ s3
def sub2 (xs ys : List Int) : List Int := List.zipWith (fun x y => x - y) xs ys
def mod2 (xs ys : List Int) : List Int := List.zipWith (fun x y => x % y) xs ys
def sp_difference (K : PySem.W.Frag) : Sp := fun vs H Q _ => ∃ (k1 k2 : Bool) (a b : Addr) (xs ys : List Int), vs = [.ref a, .ref b] ∧ Sqh k1 H a (xs.map V.int) ∧ Sqh k2 H b (ys.map V.int) ∧ xs.length = ys.length ∧ xs.length ≤ 64 ∧
  ∀ H' l, Same H H' → H l = none → H' l = some (.lst ((sub2 xs ys).map V.int)) → Q (.ref l) H'
theorem ok_difference (T : Tx K mg) : FnOk P w K mg base CX0 1 T.f_difference T.fd_difference ["seat", "other"] (sp_difference K) := by
  refine T.F_difference.ok sc_difference (fun vs H Q E h => ?_) (fun cdv A outer s H vs Q E hr h => ?_)
  · obtain ⟨k1, k2, a, b, xs, ys, rfl, _⟩ := h; rfl
  · obtain ⟨k1, k2, a, b, xs, ys, rfl, hx, hy, hl, h64, q⟩ := h
    refine ⟨_, (pss_one (ps_ret (pe_lc (own := [("place", 2), ("base", 3)]) (g := (gTupH 2 (gCons (gName 2) (gCons (gName 3) gNil)))) (tt := tYes) rfl sc_difference.nd (pi_z2H (by rfl) T.n_zip (pa_cons (pv 0) (pa_cons (pv 1) pa_nil))) (blkOk_by (own := [("place", 2), ("base", 3)]) (N := N_difference) (sc := defScope d_difference) (by decide +kernel)) (fun _ _ _ _ _ => (pg_tupH (n := 2) rfl (pgs_cons (pg_name (i := 2) sc_difference.nd rfl (Or.inl rfl)) (pgs_cons (pg_name (i := 3) sc_difference.nd rfl (Or.inl rfl)) pgs_nil)))) (fun _ _ _ _ _ => pts_nil) (fun _ _ _ _ _ => (pe_op op_sub (pv 2) (pv 3)))))), ?_⟩
    walk_at "rd"
    refine ⟨k1, k2, xs.map V.int, hx, ys.map V.int, hy, by rw [List.length_map, List.length_map, hl], fun J W => ?_⟩
    refine lcr_two (p := 2) (q := 3) hl h64 (fun x y => x - y) W (fun H3 s3 => ⟨hx.same s3, hy.same s3⟩) (fun T0 x y H3 R hT hR => ?_) (fun x y => rfl) (fun i x y Qy H3 h1 h2 hq => ?_) fun D H3 hD s3 h3 => q _ D s3 hD h3
    · walk_at "rh"
      exact hR
    · walk_at "rd"
      exact hq
def sp_reduced (K : PySem.W.Frag) : Sp := fun vs H Q _ => ∃ (k1 k2 : Bool) (a b : Addr) (xs ys : List Int), vs = [.ref a, .ref b] ∧ Sqh k1 H a (xs.map V.int) ∧ Sqh k2 H b (ys.map V.int) ∧ xs.length = ys.length ∧ xs.length ≤ 64 ∧ (∀ y ∈ ys, 0 < y) ∧
  ∀ H' l, Same H H' → H l = none → H' l = some (.lst ((mod2 xs ys).map V.int)) → Q (.ref l) H'
theorem ok_reduced (T : Tx K mg) : FnOk P w K mg base CX0 1 T.f_reduced T.fd_reduced ["vector", "odds"] (sp_reduced K) := by
  refine T.F_reduced.ok sc_reduced (fun vs H Q E h => ?_) (fun cdv A outer s H vs Q E hr h => ?_)
  · obtain ⟨k1, k2, a, b, xs, ys, rfl, _⟩ := h; rfl
  · obtain ⟨k1, k2, a, b, xs, ys, rfl, hx, hy, hl, h64, hp, q⟩ := h
    refine ⟨_, (pss_one (ps_ret (pe_lc (own := [("part", 2), ("odd", 3)]) (g := (gTupH 2 (gCons (gName 2) (gCons (gName 3) gNil)))) (tt := tYes) rfl sc_reduced.nd (pi_z2H (by rfl) T.n_zip (pa_cons (pv 0) (pa_cons (pv 1) pa_nil))) (blkOk_by (own := [("part", 2), ("odd", 3)]) (N := N_reduced) (sc := defScope d_reduced) (by decide +kernel)) (fun _ _ _ _ _ => (pg_tupH (n := 2) rfl (pgs_cons (pg_name (i := 2) sc_reduced.nd rfl (Or.inl rfl)) (pgs_cons (pg_name (i := 3) sc_reduced.nd rfl (Or.inl rfl)) pgs_nil)))) (fun _ _ _ _ _ => pts_nil) (fun _ _ _ _ _ => (pe_op op_mod (pv 2) (pv 3)))))), ?_⟩
    walk_at "rd"
    refine ⟨k1, k2, xs.map V.int, hx, ys.map V.int, hy, by rw [List.length_map, List.length_map, hl], fun J W => ?_⟩
    refine lcr_two (p := 2) (q := 3) hl h64 (fun x y => x % y) W (fun H3 s3 => ⟨hx.same s3, hy.same s3⟩) (fun T0 x y H3 R hT hR => ?_) (fun x y => rfl) (fun i x y Qy H3 h1 h2 hq => ?_) fun D H3 hD s3 h3 => q _ D s3 hD h3
    · walk_at "rh"
      exact hR
    · walk_at "rd"
      exact ⟨hp y (List.mem_of_getElem? h2), hq⟩
/-! the odd part -/
def lowN (n : Nat) : Nat := n - (n &&& (n - 1))
theorem low_even {q : Nat} (h : 0 < q) : lowN (2 * q) = 2 * lowN q := by
  unfold lowN
  have e : (2 * q) &&& (2 * q - 1) = 2 * (q &&& (q - 1)) := by
    have h1 : ((2 * q) &&& (2 * q - 1)) / 2 = q &&& (q - 1) := by
      rw [Nat.and_div_two, show 2 * q / 2 = q by omega, show (2 * q - 1) / 2 = q - 1 by omega]
    have h2 : ((2 * q) &&& (2 * q - 1)) % 2 = 0 := by
      have h3 := Nat.and_mod_two_pow (a := 2 * q) (b := 2 * q - 1) (n := 1)
      rw [Nat.pow_one, show (2 * q) % 2 = 0 by omega, Nat.zero_and] at h3
      exact h3
    omega
  have h4 : q &&& (q - 1) ≤ q := Nat.and_le_left
  rw [e]
  omega
theorem low_odd (q : Nat) : lowN (2 * q + 1) = 1 := by
  unfold lowN
  have e : (2 * q + 1) &&& (2 * q + 1 - 1) = 2 * q := by
    have h1 : ((2 * q + 1) &&& (2 * q + 1 - 1)) / 2 = q := by
      rw [Nat.and_div_two, show (2 * q + 1) / 2 = q by omega, show (2 * q + 1 - 1) / 2 = q by omega, Nat.and_self]
    have h2 : ((2 * q + 1) &&& (2 * q + 1 - 1)) % 2 = 0 := by
      have h3 := Nat.and_mod_two_pow (a := 2 * q + 1) (b := 2 * q + 1 - 1) (n := 1)
      rw [Nat.pow_one, show (2 * q + 1 - 1) % 2 = 0 by omega, Nat.and_zero] at h3
      exact h3
    omega
  omega
def oddN (n : Nat) : Nat := n / lowN n
theorem odd_even {q : Nat} (h : 0 < q) : oddN (2 * q) = oddN q := by
  unfold oddN
  rw [low_even h, Nat.mul_div_mul_left _ _ (by decide)]
theorem odd_odd (q : Nat) : oddN (2 * q + 1) = 2 * q + 1 := by
  unfold oddN
  rw [low_odd, Nat.div_one]
/-- a size is its odd part times a power of 2 -/
theorem odd_split : ∀ n : Nat, 0 < n → ∃ k, n = oddN n * 2 ^ k ∧ oddN n % 2 = 1 := by
  intro n
  induction n using Nat.strongRecOn with
  | ind n ih =>
    intro h
    by_cases h2 : n % 2 = 0
    · obtain ⟨q, rfl⟩ : ∃ q, n = 2 * q := ⟨n / 2, by omega⟩
      obtain ⟨k, e1, e2⟩ := ih q (by omega) (by omega)
      rw [odd_even (by omega)]
      exact ⟨k + 1, by rw [Nat.pow_succ, ← Nat.mul_assoc, ← e1]; omega, e2⟩
    · obtain ⟨q, rfl⟩ : ∃ q, n = 2 * q + 1 := ⟨n / 2, by omega⟩
      rw [odd_odd]
      exact ⟨0, by simp, by omega⟩
theorem odd_pos {n : Nat} (h : 0 < n) : 0 < oddN n := by
  obtain ⟨k, _, e⟩ := odd_split n h
  omega
theorem low_pos {n : Nat} (h : 0 < n) : 0 < lowN n := by
  have h1 := odd_pos h
  unfold oddN at h1
  by_cases e : lowN n = 0
  · rw [e] at h1; simp at h1
  · omega
theorem and_neg {n : Nat} (h : 0 < n) : Builtin.bitAnd (n : Int) (-(n : Int)) = (lowN n : Nat) := by
  rw [bitAnd_pn (by omega) (by omega)]
  have e : (Builtin.bitNot (-(n : Int))).toNat = n - 1 := by
    unfold Builtin.bitNot
    omega
  rw [e, Int.toNat_natCast]
  unfold lowN
  have h4 : n &&& (n - 1) ≤ n := Nat.and_le_left
  omega
def oddI (s : Int) : Int := (oddN s.toNat : Nat)
def sp_odd_part (K : PySem.W.Frag) : Sp := fun vs H Q _ => ∃ s : Int, vs = [.int s] ∧ 1 ≤ s ∧ s.natAbs < 2 ^ 6000 ∧ Q (.int (oddI s)) H
theorem ok_odd_part (T : Tx K mg) : FnOk P w K mg base CX0 1 T.f_odd_part T.fd_odd_part ["size"] (sp_odd_part K) := by
  refine T.F_odd_part.ok sc_odd_part (fun vs H Q E h => ?_) (fun cdv A outer s H vs Q E hr h => ?_)
  · obtain ⟨z, rfl, _⟩ := h; rfl
  · obtain ⟨z, rfl, h1, hb, q⟩ := h
    refine ⟨_, (pss_one (ps_ret (pe_op op_fdivW (pv 0) (pe_op op_and (pv 0) (pe_un un_neg (pv 0)))))), ?_⟩
    obtain ⟨n, rfl⟩ := Int.eq_ofNat_of_zero_le (by omega : 0 ≤ z)
    have hn : 0 < n := by omega
    walk_at "rd"
    rw [and_neg hn]
    have hle : lowN n ≤ n := Nat.sub_le _ _
    have hlp := low_pos hn
    refine ⟨wide_div (b := 6000) (by omega) (by rw [Int.natAbs_natCast] at hb ⊢; omega) (by decide) (by decide), ?_⟩
    have e : ((n : Int) / (lowN n : Nat)) = oddI n := by
      unfold oddI oddN
      rw [Int.toNat_natCast, Int.natCast_ediv]
    rw [e]
    exact q
theorem ixN_in {n i : Nat} (h : i < n) : ixN n (i : Int) = some i := by
  unfold ixN
  simp [h]
def rowI (es : List Int) (i : Nat) : List Int := (List.replicate es.length (0 : Int)).set i (es.getD i 0)
def diagI (es : List Int) : List (List Int) := (List.range es.length).map (rowI es)
theorem flat0 (k : Nat) : (List.replicate k [V.int 0]).flatten = (List.replicate k (0 : Int)).map V.int := by
  induction k with
  | zero => rfl
  | succ k ih => rw [List.replicate_succ, List.flatten_cons, ih, List.replicate_succ]; rfl
theorem diag_take {es : List Int} {i : Nat} (h : i < es.length) : (diagI es).take (i + 1) = (diagI es).take i ++ [rowI es i] := by
  have e : (diagI es)[i]? = some (rowI es i) := by
    unfold diagI
    rw [List.getElem?_map, List.getElem?_range h]
    rfl
  rw [List.take_add_one, e]
  rfl
def MD1 (l : Addr) (H : Hp) (σ : L2.St) (H' : Hp) : Prop := ∃ D, σ = [some (V.ref l), some (V.ref D), none, none, none] ∧ Same H H' ∧ H D = none ∧ H' D = some (.lst [])
def MD2 (l D : Addr) (es : List Int) (H : Hp) (σ : L2.St) (H' : Hp) : Prop := ∃ v2 v3 v4, σ = [some (V.ref l), some (V.ref D), v2, v3, v4] ∧ Same H H' ∧ LstL H' D (diagI es)
def MD3 (l D : Addr) (i : Nat) (e : Int) (es : List Int) (H : Hp) (σ : L2.St) (H' : Hp) : Prop := ∃ r, σ = [some (V.ref l), some (V.ref D), some (V.int (i : Nat)), some (V.int e), some (V.ref r)] ∧ Same H H' ∧ H r = none ∧ H' r = some (.lst ((List.replicate es.length (0 : Int)).map V.int))
def MD4 (l D r : Addr) (i : Nat) (e : Int) (es : List Int) (H : Hp) (σ : L2.St) (H' : Hp) : Prop := σ = [some (V.ref l), some (V.ref D), some (V.int (i : Nat)), some (V.int e), some (V.ref r)] ∧ Same H H' ∧ H' r = some (.lst ((rowI es i).map V.int))
def sp_diagonal (K : PySem.W.Frag) : Sp := fun vs H Q _ => ∃ (l : Addr) (es : List Int), vs = [.ref l] ∧ H l = some (.lst (es.map V.int)) ∧ es.length ≤ 64 ∧ ∀ H' D, Same H H' → H D = none → LstL H' D (diagI es) → Q (.ref D) H'
theorem ok_diagonal (T : Tx K mg) : FnOk P w K mg base CX0 1 T.f_diagonal T.fd_diagonal ["entries"] (sp_diagonal K) := by
  refine T.F_diagonal.ok sc_diagonal (fun vs H Q E h => ?_) (fun cdv A outer s H vs Q E hr h => ?_)
  · obtain ⟨l, es, rfl, _⟩ := h; rfl
  · obtain ⟨l, es, rfl, hl, h64, q⟩ := h
    refine ⟨_, (C8.pss_cut (ps_set (i := 1) sc_diagonal.nd rfl (Or.inl rfl) (pe_lst pa_nil))
      (C8.pss_cut (ps_for PassesOwn.never rfl (pi_enH (by rfl) T.n_enumerate (pa_cons (pv 0) pa_nil)) (pg_tupH (n := 2) rfl (pgs_cons (pg_name (i := 2) sc_diagonal.nd rfl (Or.inl rfl)) (pgs_cons (pg_name (i := 3) sc_diagonal.nd rfl (Or.inl rfl)) pgs_nil)))
        (C8.pss_cut (ps_set (i := 4) sc_diagonal.nd rfl (Or.inl rfl) (pe_op op_rep (pe_lst (pa_cons pe_int pa_nil)) (pe_callB len_H (by rfl) T.n_len PySem.boot_len (pa_cons (pv 0) pa_nil))))
        (C8.pss_cut (ps_asg (pv 3) (pg_sub (pv 4) (pv 2) set_lH))
        (pss_one (ps_expr (pe_append (pv 1) (pa_cons (pv 4) pa_nil)))))))
      (pss_one (ps_ret (pv 1))))), ?_⟩
    refine ⟨MD1 l H, ?_, ?_⟩
    · walk_at "rd"
      exact fun D hD => ⟨D, rfl, Same.new hD, hD, upd_same⟩
    rintro σ1 H1 ⟨D, rfl, s1, hD, hD1⟩
    have hl1 := s1 _ _ hl
    refine ⟨MD2 l D es H, ?_, ?_⟩
    · walk_at "rd"
      refine ⟨true, es.map V.int, hl1, fun J W => ?_⟩
      refine forr W (fun i σ H' => Same H H' ∧ LstL H' D ((diagI es).take i) ∧ ∃ v2 v3 v4, σ = [some (V.ref l), some (V.ref D), v2, v3, v4]) ⟨s1, ⟨[], hD1, AsL.nil⟩, none, none, none, rfl⟩ (fun i σ H' _ h => h.1 _ _ hl) ?_ ?_
      · rintro i x σ2 H2 H3 hi ⟨s2, hL, v2, v3, v4, rfl⟩ hy
        obtain ⟨T0, x1, rfl, hT, rfl, hx⟩ := hy
        simp only [List.getElem?_map, Option.map_eq_some_iff] at hx
        obtain ⟨e, he, rfl⟩ := hx
        have hil : i < es.length := (List.getElem?_eq_some_iff.mp he).1
        walk_at "rd"
        have sT := Same.new hT (o := .tup [V.int (i : Nat), V.int e])
        generalize upd H2 T0 (HO.tup [V.int (i : Nat), V.int e]) = H3 at sT ⊢
        have s3 := s2.trans sT
        have hL3 := hL.same sT
        refine ⟨MD3 l D i e es H3, ?_, ?_⟩
        · walk_at "rd"
          intro p hp
          have sp := Same.new hp (o := .lst [V.int 0])
          have fp : (upd H3 p (.lst [V.int 0])) p = some (.lst [V.int 0]) := upd_same
          generalize upd H3 p (HO.lst [V.int 0]) = H4 at sp fp ⊢
          refine .inl ⟨_, sp _ _ (s3 _ _ hl), p, (es.length : Int), [V.int 0], rfl, by rw [List.length_map], fp, by omega, by omega, ?_, fun r hr => ?_⟩
          · rw [Int.toNat_natCast]
            exact Nat.le_trans (by simpa using h64 : [V.int 0].length * es.length ≤ 64) (by decide)
          · rw [Int.toNat_natCast, flat0]
            have hr3 : H3 r = none := by
              cases e2 : H3 r with
              | none => rfl
              | some o => rw [sp _ _ e2] at hr; cases hr
            exact ⟨r, rfl, sp.trans (Same.new hr), hr3, upd_same⟩
        rintro σ4 H4 ⟨r, rfl, s4, hr, hr4⟩
        refine ⟨MD4 l D r i e es H3, ?_, ?_⟩
        · walk_at "rd"
          refine ⟨_, hr4, i, ?_, rfl, ?_, ?_⟩
          · exact ixN_in (by rw [List.length_map, List.length_replicate]; exact hil)
          · intro b o hb
            rw [upd_ne (ne_some hb hr)]
            exact s4 _ _ hb
          · rw [upd_same]
            congr 2
            unfold rowI
            rw [List.map_set, List.getD_eq_getElem?_getD, he]
            rfl
        rintro σ5 H5 ⟨rfl, s5, hr5⟩
        walk_at "rd"
        obtain ⟨as, hD5, hA⟩ := hL3.same s5
        have hlen : as.length ≤ es.length := by
          rw [hA.1, List.length_take]
          unfold diagI
          rw [List.length_map, List.length_range]
          omega
        refine ⟨⟨_, hD5⟩, _, hD5, ?_, ?_, as ++ [r], ?_, ?_⟩
        · rw [List.length_map]
          exact Nat.lt_of_le_of_lt (Nat.le_trans hlen h64) (by decide)
        · intro b o hb
          rw [upd_ne (ne_some hb hD)]
          exact s5 _ _ (s3 _ _ hb)
        · rw [upd_same, List.map_append]
          rfl
        · rw [diag_take hil]
          have hA2 := hA.snoc hr5
          have hnD := hA2.ne hD5 (fun g hg => by
            have hlg : ∀ j, (rowI es j).length = es.length := fun j => by unfold rowI; simp
            have h0 : g.length = es.length := by
              rcases List.mem_append.mp hg with h | h
              · have h := List.mem_of_mem_take h
                unfold diagI at h
                obtain ⟨j, _, rfl⟩ := List.mem_map.mp h
                exact hlg j
              · rw [List.mem_singleton.mp h]; exact hlg i
            intro e1
            rw [e1, List.length_nil] at h0
            omega)
          exact AsL.put hA2 hnD
      · rintro σ2 H2 ⟨s2, hL, v2, v3, v4, rfl⟩
        refine ⟨v2, v3, v4, rfl, s2, ?_⟩
        rw [List.length_map, show es.length = (diagI es).length by unfold diagI; simp, List.take_length] at hL
        exact hL
    rintro σ2 H2 ⟨v2, v3, v4, rfl, s2, hL⟩
    walk_at "rd"
    exact q _ D s2 hD hL
end

/-! ### a basis with one more vector -/
section
variable {P : Program} {w : World} {K : PySem.W.Frag} {mg : Str → Option Value} {base : Heap}
def lowV (piv rest : List Int) (at' : Nat) : List Int := List.zipWith (fun p u => p - (rest.getD at' 0 / piv.getD at' 0) * u) rest piv
/-- one step: what is left of the rest -/
def nxtV (odds piv rest : List Int) (at' : Nat) : List Int := mod2 (lowV piv rest at') odds
def euc (odds : List Int) (at' : Nat) : Nat → List Int → List Int → List Int × List Int
  | 0, piv, rest => (piv, rest)
  | f + 1, piv, rest => if rest.getD at' 0 = 0 then (piv, rest) else if (nxtV odds piv rest at').getD at' 0 = 0 then (piv, nxtV odds piv rest at') else euc odds at' f (nxtV odds piv rest at') piv
def withV (odds : List Int) : Nat → List (List Int) → List Int → List (List Int)
  | _, [], _ => []
  | at', row :: rows, rest => (euc odds at' (row.getD at' 0).toNat row rest).1 :: withV odds (at' + 1) rows (euc odds at' (row.getD at' 0).toNat row rest).2
/-- a vector that is reduced by the odds -/
structure RedV (odds rest : List Int) : Prop where
  len : rest.length = odds.length
  ok : ∀ (j : Nat) x o, rest[j]? = some x → odds[j]? = some o → 0 ≤ x ∧ x ≤ o
theorem mod2_red {odds v : List Int} (hl : v.length = odds.length) (hp : ∀ o ∈ odds, 0 < o) : RedV odds (mod2 v odds) := by
  refine ⟨by unfold mod2; simp [hl], fun j x o hx ho => ?_⟩
  have hj : j < v.length := by rw [hl]; exact (List.getElem?_eq_some_iff.mp ho).1
  have e := zw_get (g := fun x y => x % y) (List.getElem?_eq_getElem hj) ho
  unfold mod2 at hx
  rw [e] at hx
  obtain rfl := Option.some.inj hx
  have := hp o (List.mem_of_getElem? ho)
  exact ⟨Int.emod_nonneg _ (by omega), Int.le_of_lt (Int.emod_lt_of_pos _ this)⟩
/-- entries of at most 1000 bits -/
def Bnd (v : List Int) : Prop := ∀ x ∈ v, x.natAbs < 2 ^ 1000
theorem RedV.bnd {odds rest : List Int} (h : RedV odds rest) (hb : Bnd odds) : Bnd rest := fun x hx => by
  obtain ⟨j, hj, rfl⟩ := List.getElem_of_mem hx
  have hj2 : j < odds.length := by rw [← h.len]; exact hj
  obtain ⟨h0, h1⟩ := h.ok j _ _ (List.getElem?_eq_getElem hj) (List.getElem?_eq_getElem hj2)
  have := hb _ (List.getElem_mem hj2)
  omega
theorem low_len {odds piv rest : List Int} {i : Nat} (h1 : piv.length = odds.length) (h2 : rest.length = odds.length) : (lowV piv rest i).length = odds.length := by unfold lowV; rw [List.length_zipWith, h1, h2, Nat.min_self]
theorem nxt_red {odds piv rest : List Int} {i : Nat} (hp : ∀ o ∈ odds, 0 < o) (h1 : piv.length = odds.length) (h2 : rest.length = odds.length) : RedV odds (nxtV odds piv rest i) := mod2_red (low_len h1 h2) hp
theorem euc_next {odds piv rest : List Int} {at' : Nat} (ha : at' < odds.length) (hl : RedV odds piv) (hr : RedV odds rest) (h0 : 0 < piv.getD at' 0) :
    (nxtV odds piv rest at').getD at' 0 = rest.getD at' 0 % piv.getD at' 0 ∧ 0 ≤ (nxtV odds piv rest at').getD at' 0 ∧ (nxtV odds piv rest at').getD at' 0 < piv.getD at' 0 := by
  have h1 : at' < rest.length := by rw [hr.len]; exact ha
  have h2 : at' < piv.length := by rw [hl.len]; exact ha
  have e1 := List.getElem?_eq_getElem h1
  have e2 := List.getElem?_eq_getElem h2
  have e3 := List.getElem?_eq_getElem ha
  obtain ⟨r0, r1⟩ := hl.ok at' _ _ e2 e3
  have g1 : rest.getD at' 0 = rest[at'] := by rw [List.getD_eq_getElem?_getD, e1]; rfl
  have g2 : piv.getD at' 0 = piv[at'] := by rw [List.getD_eq_getElem?_getD, e2]; rfl
  rw [g2] at h0 ⊢
  rw [g1]
  have hm : (nxtV odds piv rest at')[at']? = some (((rest[at'] - (rest[at'] / piv[at']) * piv[at'])) % odds[at']) := by
    unfold nxtV mod2
    refine zw_get (g := fun x y => x % y) ?_ e3
    unfold lowV
    rw [zw_get (g := fun p u => p - (rest.getD at' 0 / piv.getD at' 0) * u) e1 e2, g1, g2]
  have e4 : rest[at'] - (rest[at'] / piv[at']) * piv[at'] = rest[at'] % piv[at'] := by
    have := Int.emod_add_mul_ediv rest[at'] piv[at']
    rw [Int.mul_comm (rest[at'] / piv[at'])]
    omega
  have h5 := Int.emod_nonneg rest[at'] (by omega : piv[at'] ≠ 0)
  have h6 := Int.emod_lt_of_pos rest[at'] h0
  have g3 : (nxtV odds piv rest at').getD at' 0 = rest[at'] % piv[at'] := by
    rw [List.getD_eq_getElem?_getD, hm, e4, Int.emod_eq_of_lt h5 (by omega)]
    rfl
  rw [g3]
  exact ⟨rfl, h5, h6⟩
theorem euc_zero {odds piv rest : List Int} {at' : Nat} (h : rest.getD at' 0 = 0) : ∀ f, euc odds at' f piv rest = (piv, rest)
  | 0 => rfl
  | f + 1 => by
    show (if rest.getD at' 0 = 0 then (piv, rest) else _) = _
    rw [if_pos h]
def MV1 (b o v : Addr) (rest : List Int) (H : Hp) (σ : L2.St) (H' : Hp) : Prop := ∃ t, σ = [some (V.ref b), some (V.ref o), some (V.ref v), some (V.ref t), none, none, none, none, none, none, none, none] ∧ Same H H' ∧ H' t = some (.lst (rest.map V.int))
def MV2 (b o v t : Addr) (H : Hp) (σ : L2.St) (H' : Hp) : Prop := ∃ D, σ = [some (V.ref b), some (V.ref o), some (V.ref v), some (V.ref t), some (V.ref D), none, none, none, none, none, none, none] ∧ Same H H' ∧ H D = none ∧ H' D = some (.lst [])
def MV3 (D : Addr) (res : List (List Int)) (H : Hp) (σ : L2.St) (H' : Hp) : Prop := ∃ b o v t v5 v6 v7 v8 v9, σ = [some (V.ref b), some (V.ref o), some (V.ref v), some (V.ref t), some (V.ref D), v5, v6, v7, v8, v9, none, none] ∧ Same H H' ∧ LstL H' D res
/-- what holds ahead of the i-th row -/
def IV (b o v D : Addr) (odds : List Int) (rows : List (List Int)) (res : List (List Int)) (H : Hp) (i : Nat) (σ : L2.St) (H' : Hp) : Prop := ∃ t rest done v5 v6 v7 v8 v9, σ = [some (V.ref b), some (V.ref o), some (V.ref v), some (V.ref t), some (V.ref D), v5, v6, v7, v8, v9, none, none] ∧
  Same H H' ∧ H' t = some (.lst (rest.map V.int)) ∧ RedV odds rest ∧ LstL H' D done ∧ done.length = i ∧ (∀ r ∈ done, r ≠ []) ∧ res = done ++ withV odds i (rows.drop i) rest
def MV4 (b o v D t a : Addr) (i : Nat) (H : Hp) (σ : L2.St) (H' : Hp) : Prop := ∃ v8 v9, σ = [some (V.ref b), some (V.ref o), some (V.ref v), some (V.ref t), some (V.ref D), some (V.int (i : Nat)), some (V.ref a), some (V.ref a), v8, v9, none, none] ∧ Same H H'
/-- within Euclid's steps -/
def IW (b o v D a : Addr) (i : Nat) (odds : List Int) (fin : List Int × List Int) (H : Hp) (m : Nat) (σ : L2.St) (H' : Hp) : Prop := ∃ t p piv rest v8 v9, σ = [some (V.ref b), some (V.ref o), some (V.ref v), some (V.ref t), some (V.ref D), some (V.int (i : Nat)), some (V.ref a), some (V.ref p), v8, v9, none, none] ∧
  Same H H' ∧ H' t = some (.lst (rest.map V.int)) ∧ H' p = some (.lst (piv.map V.int)) ∧ RedV odds piv ∧ 0 < piv.getD i 0 ∧ RedV odds rest ∧ m = (if rest.getD i 0 = 0 then 0 else (piv.getD i 0).toNat) ∧ ∃ f, m ≤ f ∧ euc odds i f piv rest = fin
def MV5 (b o v D a : Addr) (i : Nat) (odds : List Int) (fin : List Int × List Int) (H : Hp) (σ : L2.St) (H' : Hp) : Prop := ∃ t p v8 v9, σ = [some (V.ref b), some (V.ref o), some (V.ref v), some (V.ref t), some (V.ref D), some (V.int (i : Nat)), some (V.ref a), some (V.ref p), v8, v9, none, none] ∧
  Same H H' ∧ H' t = some (.lst (fin.2.map V.int)) ∧ H' p = some (.lst (fin.1.map V.int)) ∧ fin.1.length = odds.length ∧ RedV odds fin.2
def ME (σ0 : L2.St) (H0 : Hp) (σ : L2.St) (H' : Hp) : Prop := σ = σ0 ∧ H' = H0
def ML (b o v t D a p : Addr) (i : Nat) (fac : Int) (low : List Int) (H : Hp) (σ : L2.St) (H' : Hp) : Prop := ∃ l, σ = [some (V.ref b), some (V.ref o), some (V.ref v), some (V.ref t), some (V.ref D), some (V.int (i : Nat)), some (V.ref a), some (V.ref p), some (V.int fac), some (V.ref l), none, none] ∧ Same H H' ∧ H' l = some (.lst (low.map V.int))
def MN (b o v D a p : Addr) (i : Nat) (fac : Int) (nx : List Int) (H : Hp) (σ : L2.St) (H' : Hp) : Prop := ∃ t l, σ = [some (V.ref b), some (V.ref o), some (V.ref v), some (V.ref t), some (V.ref D), some (V.int (i : Nat)), some (V.ref a), some (V.ref p), some (V.int fac), some (V.ref l), none, none] ∧ Same H H' ∧ H' t = some (.lst (nx.map V.int))
def sp_with_vector (K : PySem.W.Frag) : Sp := fun vs H Q _ => ∃ (b o v : Addr) (k : Bool) (rows : List (List Int)) (odds vec : List Int), vs = [.ref b, .ref o, .ref v] ∧ LstL H b rows ∧ H o = some (.lst (odds.map V.int)) ∧ Sqh k H v (vec.map V.int) ∧
  rows.length = odds.length ∧ vec.length = odds.length ∧ odds.length ≤ 4 ∧ 1 ≤ odds.length ∧ (∀ r ∈ rows, RedV odds r) ∧ (∀ (j : Nat) r, rows[j]? = some r → 0 < r.getD j 0) ∧ (∀ x ∈ odds, 0 < x) ∧ Bnd odds ∧
  ∀ H' D, Same H H' → H D = none → LstL H' D (withV odds 0 rows (mod2 vec odds)) → Q (.ref D) H'
theorem ok_with_vector (T : Tx K mg) : FnOk P w K mg base CX0 2 T.f_with_vector T.fd_with_vector ["basis", "odds", "vector"] (sp_with_vector K) := by
  refine T.F_with_vector.ok sc_with_vector (fun vs H Q E h => ?_) (fun cdv A outer s H vs Q E hr h => ?_)
  · obtain ⟨b, o, v, k, rows, odds, vec, rfl, _⟩ := h; rfl
  · obtain ⟨b, o, v, k, rows, odds, vec, rfl, hb, ho, hv, l1, l2, l4, l0, hrows, hpiv, hpos, hbd, q⟩ := h
    refine ⟨_, (C8.pss_cut (ps_set (i := 3) sc_with_vector.nd rfl (Or.inl rfl) (pe_call (ok_reduced T) (hr.mono (by decide)) (by rfl) T.g_reduced T.F_reduced.kp T.b_reduced .nil pass0 (pa_cons (pv 2) (pa_cons (pv 1) pa_nil))))
      (C8.pss_cut (ps_set (i := 4) sc_with_vector.nd rfl (Or.inl rfl) (pe_lst pa_nil))
      (C8.pss_cut (ps_for PassesOwn.never rfl (pi_enH (by rfl) T.n_enumerate (pa_cons (pv 0) pa_nil)) (pg_tupH (n := 2) rfl (pgs_cons (pg_name (i := 5) sc_with_vector.nd rfl (Or.inl rfl)) (pgs_cons (pg_name (i := 6) sc_with_vector.nd rfl (Or.inl rfl)) pgs_nil)))
        (C8.pss_cut (ps_set (i := 7) sc_with_vector.nd rfl (Or.inl rfl) (pv 6))
        (C8.pss_cut (ps_while PassesOwn.never (pt_cmpR op_ne (pe_ix ix_lH (pv 3) (pv 5) (fun _ _ => rfl)) pe_int (nomark _)) (C8.pss_cut (ps_set (i := 8) sc_with_vector.nd rfl (Or.inr rfl) (pe_op op_fdivW (pe_ix ix_lH (pv 3) (pv 5) (fun _ _ => rfl)) (pe_ix ix_lH (pv 7) (pv 5) (fun _ _ => rfl))))
          (C8.pss_cut (ps_setLc (i := 9) (own := [("part", 10), ("upper", 11)]) (g := (gTupH 2 (gCons (gName 10) (gCons (gName 11) gNil)))) (tt := tYes) rfl sc_with_vector.nd rfl rfl (sw_true rfl rfl rfl (by decide +kernel)) (pi_z2H (by rfl) T.n_zip (pa_cons (pv 3) (pa_cons (pv 7) pa_nil))) (blkOk_by (own := [("part", 10), ("upper", 11)]) (N := N_with_vector) (sc := defScope d_with_vector) (by decide +kernel)) (fun _ _ _ _ _ => (pg_tupH (n := 2) rfl (pgs_cons (pg_name (i := 10) sc_with_vector.nd rfl (Or.inl rfl)) (pgs_cons (pg_name (i := 11) sc_with_vector.nd rfl (Or.inl rfl)) pgs_nil)))) (fun _ _ _ _ _ => pts_nil) (fun _ _ _ _ _ => (pe_op op_sub (pv 10) (pe_op op_mulA (pv 8) (pv 11)))))
          (C8.pss_cut (ps_set (i := 3) sc_with_vector.nd rfl (Or.inl rfl) (pe_call (ok_reduced T) (hr.mono (by decide)) (by rfl) T.g_reduced T.F_reduced.kp T.b_reduced .nil pass0 (pa_cons (pv 9) (pa_cons (pv 1) pa_nil))))
          (pss_one (ps_if (pt_cmpR op_ne (pe_ix ix_lH (pv 3) (pv 5) (fun _ _ => rfl)) pe_int (nomark _)) (pss_one (ps_par (i := 7) (j := 3) (by rfl) sc_with_vector.nd rfl rfl (by decide) rfl rfl (pa_cons (pv 3) (pa_cons (pv 7) pa_nil)) (by rfl))) pss_nil))))))
        (pss_one (ps_expr (pe_append (pv 4) (pa_cons (pv 7) pa_nil)))))))
      (pss_one (ps_ret (pv 4)))))), ?_⟩
    have hr0 := mod2_red l2 hpos
    generalize hrest0 : mod2 vec odds = rest0 at q hr0
    generalize hres : withV odds 0 rows rest0 = res at q
    refine ⟨MV1 b o v rest0 H, ?_, ?_⟩
    · walk_at "rd"
      refine ⟨k, true, v, o, vec, odds, rfl, hv, ho, l2, by omega, hpos, fun H1 t s1 hn ht => ?_⟩
      rw [hrest0] at ht
      exact ⟨t, rfl, s1, ht⟩
    rintro σ1 H1 ⟨t, rfl, s1, ht1⟩
    refine ⟨MV2 b o v t H1, ?_, ?_⟩
    · walk_at "rd"
      exact fun D hD => ⟨D, rfl, Same.new hD, hD, upd_same⟩
    rintro σ2 H2 ⟨D, rfl, s2, hD, hD2⟩
    have s02 := s1.trans s2
    have hHD : H D = none := by
      cases e : H D with
      | none => rfl
      | some u => rw [s1 _ _ e] at hD; cases hD
    obtain ⟨as, hba, hA⟩ := hb
    refine ⟨MV3 D res H, ?_, ?_⟩
    · walk_at "rd"
      refine ⟨true, as.map V.ref, s02 _ _ hba, fun J W => ?_⟩
      refine forr W (fun i σ H' => IV b o v D odds rows res H i σ H') ⟨t, rest0, [], none, none, none, none, none, rfl, s02, s2 _ _ ht1, hr0, ⟨[], hD2, AsL.nil⟩, rfl, by simp, by rw [← hres]; rfl⟩ (fun i σ H' _ h => by obtain ⟨_, _, _, _, _, _, _, _, _, h, _⟩ := h; exact h _ _ hba) ?_ ?_
      · rintro i x σ3 H3 H4 hi ⟨t, rest, done, v5, v6, v7, v8, v9, rfl, s3, ht3, hr3, hL3, hdl, hdn, hres3⟩ hy
        obtain ⟨T0, x1, rfl, hT, rfl, hx⟩ := hy
        simp only [List.getElem?_map, Option.map_eq_some_iff] at hx
        obtain ⟨a, ha, rfl⟩ := hx
        rw [List.length_map, hA.1, l1] at hi
        have hir : i < rows.length := by omega
        have hrow := List.getElem?_eq_getElem hir
        have hrr := hrows _ (List.getElem_mem hir)
        have hrl := hrr.len
        have hrp := hpiv i _ hrow
        have haH := hA.2 i a _ ha hrow
        have sT := Same.new hT (o := .tup [V.int (i : Nat), V.ref a])
        walk_at "rd"
        generalize upd H3 T0 (HO.tup [V.int (i : Nat), V.ref a]) = H4 at sT ⊢
        have s4 := s3.trans sT
        refine ⟨MV4 b o v D t a i H4, ?_, ?_⟩
        · walk_at "rd"
          exact ⟨v8, v9, rfl, Same.refl _⟩
        rintro σ5 H5 ⟨v8, v9, rfl, s5⟩
        have s05 := s4.trans s5
        generalize hfin : euc odds i (rows[i].getD i 0).toNat rows[i] rest = fin
        refine ⟨MV5 b o v D a i odds fin H5, ?_, ?_⟩
        · refine ⟨fun m σ H' => IW b o v D a i odds fin H5 m σ H', ⟨_, t, a, rows[i], rest, v8, v9, rfl, Same.refl _, s5 _ _ (sT _ _ ht3), s05 _ _ haH, hrr, hrp, hr3, rfl, _, by split <;> omega, hfin⟩, ?_⟩
          rintro m σ6 H6 ⟨t6, p6, piv, rest6, v8, v9, rfl, s6, ht6, hp6, hpl, hpp, hr6, hm, f, hf, hfe⟩
          have h1 : i < rest6.length := by rw [hr6.len]; exact hi
          have h2 : i < piv.length := by rw [hpl.len]; exact hi
          have g1 : rest6[i]? = some (rest6.getD i 0) := by rw [List.getD_eq_getElem?_getD, List.getElem?_eq_getElem h1]; rfl
          have g2 : piv[i]? = some (piv.getD i 0) := by rw [List.getD_eq_getElem?_getD, List.getElem?_eq_getElem h2]; rfl
          walk_at "rd"
          refine ⟨_, ht6, .int (rest6.getD i 0), atI_nat (by rw [List.getElem?_map, g1]; rfl), rfl, ?_⟩
          by_cases h0 : rest6.getD i 0 = 0
          · rw [if_neg (fun h => h (by rw [h0]))]
            have e : fin = (piv, rest6) := by rw [← hfe, euc_zero h0]
            rw [e]
            exact ⟨t6, p6, v8, v9, rfl, s6, ht6, hp6, hpl.len, hr6⟩
          · rw [if_pos (fun e => h0 (by injection e))]
            obtain ⟨e1, e2, e3⟩ := euc_next hi hpl hr6 hpp
            have hb6 := hr6.bnd hbd
            have hpb := hpl.bnd hbd
            have hpi : (piv.getD i 0).natAbs < 2 ^ 1000 := hpb _ (List.mem_of_getElem? g2)
            have hri : (rest6.getD i 0).natAbs < 2 ^ 1000 := hb6 _ (List.mem_of_getElem? g1)
            refine ⟨fun σ' H' => ∃ m', m' < m ∧ IW b o v D a i odds fin H5 m' σ' H', fun _ _ h => h, ?_⟩
            refine ⟨ME [some (V.ref b), some (V.ref o), some (V.ref v), some (V.ref t6), some (V.ref D), some (V.int (i : Nat)), some (V.ref a), some (V.ref p6), some (V.int (rest6.getD i 0 / piv.getD i 0)), v9, none, none] H6, ?_, ?_⟩
            · walk_at "rd"
              refine ⟨_, ht6, _, atI_nat (by rw [List.getElem?_map, g1]; rfl), _, hp6, _, atI_nat (by rw [List.getElem?_map, g2]; rfl), ?_⟩
              refine ⟨_, rfl, _, rfl, wide_div (b := 1000) hpp hpi (by decide) (by decide), rfl, rfl⟩
            rintro σ7 H7 ⟨rfl, rfl⟩
            refine ⟨ML b o v t6 D a p6 i (rest6.getD i 0 / piv.getD i 0) (lowV piv rest6 i) H7, ?_, ?_⟩
            · walk_at "rd"
              refine ⟨true, true, rest6.map V.int, ht6, piv.map V.int, hp6, by rw [List.length_map, List.length_map, hpl.len, hr6.len], fun J W => ?_⟩
              refine lcr_two (p := 10) (q := 11) (by rw [hpl.len, hr6.len]) (by rw [hr6.len]; omega) (fun p u => p - (rest6.getD i 0 / piv.getD i 0) * u) W (fun H8 s8 => ⟨s8 _ _ ht6, s8 _ _ hp6⟩) (fun T0 x y H8 R hT hR => ?_) (fun x y => rfl) (fun j x y Qy H8 h1 h2 hq => ?_) fun L H8 hL s8 h8 => ⟨L, rfl, s8, h8⟩
              · walk_at "rh"
                exact hR
              · walk_at "rd"
                refine ⟨.inr (.inr (wide_mul (a := 1001) (b := 1000) ?_ (hpb y (List.mem_of_getElem? h2)) (by decide) (by decide) (by decide))), hq⟩
                exact Nat.lt_of_le_of_lt (Int.natAbs_ediv_le_natAbs _ _) (Nat.lt_of_lt_of_le hri (Nat.pow_le_pow_right (by decide) (by decide)))
            rintro σ8 H8 ⟨l, rfl, s8, hl8⟩
            have hlow := low_len (i := i) hpl.len hr6.len
            have hnr := nxt_red (i := i) hpos hpl.len hr6.len
            have hg3 : (nxtV odds piv rest6 i)[i]? = some ((nxtV odds piv rest6 i).getD i 0) := by rw [List.getD_eq_getElem?_getD, List.getElem?_eq_getElem (by rw [hnr.len]; exact hi)]; rfl
            have hf1 : ∃ f', f = f' + 1 := ⟨f - 1, by rw [if_neg h0] at hm; omega⟩
            obtain ⟨f', rfl⟩ := hf1
            rw [if_neg h0] at hm
            have hstep : euc odds i (f' + 1) piv rest6 = if (nxtV odds piv rest6 i).getD i 0 = 0 then (piv, nxtV odds piv rest6 i) else euc odds i f' (nxtV odds piv rest6 i) piv := by
              show (if rest6.getD i 0 = 0 then (piv, rest6) else _) = _
              rw [if_neg h0]
            refine ⟨MN b o v D a p6 i (rest6.getD i 0 / piv.getD i 0) (nxtV odds piv rest6 i) H8, ?_, ?_⟩
            · walk_at "rd"
              exact ⟨true, true, l, o, lowV piv rest6 i, odds, rfl, hl8, s8 _ _ (s6 _ _ (s05 _ _ ho)), hlow, by omega, hpos, fun H9 t9 s9 hn9 ht9 => ⟨t9, l, rfl, s9, ht9⟩⟩
            rintro σ9 H9 ⟨t9, l9, rfl, s9, ht9⟩
            have s69 := s6.trans (s8.trans s9)
            walk_at "rd"
            refine ⟨_, ht9, .int ((nxtV odds piv rest6 i).getD i 0), atI_nat (by rw [List.getElem?_map, hg3]; rfl), rfl, ?_⟩
            by_cases h9 : (nxtV odds piv rest6 i).getD i 0 = 0
            · rw [if_neg (fun h => h (by rw [h9]))]
              rw [if_pos h9] at hstep
              refine ⟨0, by omega, t9, p6, piv, nxtV odds piv rest6 i, _, _, rfl, s69, ht9, s9 _ _ (s8 _ _ hp6), hpl, hpp, hnr, by rw [if_pos h9], 0, Nat.le_refl _, ?_⟩
              rw [← hfe, hstep]
              rfl
            · rw [if_pos (fun e => h9 (by injection e))]
              rw [if_neg h9] at hstep
              refine ⟨((nxtV odds piv rest6 i).getD i 0).toNat, by omega, p6, t9, nxtV odds piv rest6 i, piv, _, _, rfl, s69, s9 _ _ (s8 _ _ hp6), ht9, hnr, by omega, hpl, by rw [if_neg (by omega)], f', by omega, ?_⟩
              rw [← hfe, hstep]
        rintro σ6 H6 ⟨t6, p6, v8, v9, rfl, s6, ht6, hp6, hfl, hfr⟩
        walk_at "rd"
        have hL6 := (hL3.same sT).same (s5.trans s6)
        obtain ⟨ds, hD6, hA6⟩ := hL6
        have hA7 := hA6.snoc hp6
        have hf1 : fin.1 ≠ [] := fun e => by rw [e, List.length_nil] at hfl; omega
        have hnD := hA7.ne hD6 (fun g hg => by
          rcases List.mem_append.mp hg with h | h
          · exact hdn g h
          · rw [List.mem_singleton.mp h]; exact hf1)
        have s06 := s05.trans s6
        have ntD : t6 ≠ D := by
          refine row_ne ht6 hD6 fun e => ?_
          have := hfr.len
          rw [e, List.length_nil] at this
          omega
        refine ⟨⟨_, hD6⟩, _, hD6, ?_, t6, fin.2, done ++ [fin.1], _, _, _, _, _, rfl, ?_, ?_, hfr, ⟨ds ++ [p6], by rw [upd_same, List.map_append]; rfl, hA7.put hnD⟩, ?_, ?_, ?_⟩
        · rw [List.length_map, hA6.1, hdl]
          exact Nat.lt_of_lt_of_le (by omega : i < 4) (by decide)
        · intro c u hb'
          rw [upd_ne (ne_some hb' hHD)]
          exact s06 _ _ hb'
        · rw [upd_ne ntD]
          exact ht6
        · rw [List.length_append, hdl]; rfl
        · intro g hg
          rcases List.mem_append.mp hg with h | h
          · exact hdn g h
          · rw [List.mem_singleton.mp h]; exact hf1
        · rw [hres3, List.drop_eq_getElem_cons hir]
          show done ++ ((euc odds i (rows[i].getD i 0).toNat rows[i] rest).1 :: withV odds (i + 1) (rows.drop (i + 1)) (euc odds i (rows[i].getD i 0).toNat rows[i] rest).2) = _
          rw [hfin]
          simp
      · rintro σ3 H3 ⟨t, rest, done, v5, v6, v7, v8, v9, rfl, s3, ht3, hr3, hL3, hdl, hdn, hres3⟩
        refine ⟨b, o, v, t, v5, v6, v7, v8, v9, rfl, s3, ?_⟩
        rw [List.length_map, hA.1, List.drop_length] at hres3
        rw [hres3]
        show LstL H3 D (done ++ [])
        rw [List.append_nil]
        exact hL3
    rintro σ3 H3 ⟨b', o', v', t', v5, v6, v7, v8, v9, rfl, s3, hL⟩
    walk_at "rd"
    exact q _ D s3 hHD hL
end

/-! ### the basis of the free shifts -/
section
variable {P : Program} {w : World} {K : PySem.W.Frag} {mg : Str → Option Value} {base : Heap}
/-- n rows of n entries of at most 1000 bits -/
structure Rows (odds : List Int) (rows : List (List Int)) : Prop where
  len : rows.length = odds.length
  row : ∀ r ∈ rows, r.length = odds.length ∧ Bnd r
  red : ∀ r ∈ rows, RedV odds r
theorem euc_ok {odds : List Int} (hp : ∀ o ∈ odds, 0 < o) (at' : Nat) : ∀ (f : Nat) (piv rest : List Int), RedV odds piv → RedV odds rest →
    RedV odds (euc odds at' f piv rest).1 ∧ RedV odds (euc odds at' f piv rest).2
  | 0, piv, rest, h1, h3 => ⟨h1, h3⟩
  | f + 1, piv, rest, h1, h3 => by
    show RedV odds (if rest.getD at' 0 = 0 then (piv, rest) else if (nxtV odds piv rest at').getD at' 0 = 0 then (piv, nxtV odds piv rest at') else euc odds at' f (nxtV odds piv rest at') piv).1 ∧ RedV odds (if rest.getD at' 0 = 0 then (piv, rest) else if (nxtV odds piv rest at').getD at' 0 = 0 then (piv, nxtV odds piv rest at') else euc odds at' f (nxtV odds piv rest at') piv).2
    have hn := nxt_red (i := at') hp h1.len h3.len
    by_cases h0 : rest.getD at' 0 = 0
    · rw [if_pos h0]; exact ⟨h1, h3⟩
    · rw [if_neg h0]
      by_cases h9 : (nxtV odds piv rest at').getD at' 0 = 0
      · rw [if_pos h9]; exact ⟨h1, hn⟩
      · rw [if_neg h9]
        exact euc_ok hp at' f _ _ hn h1
theorem withV_ok {odds : List Int} (hp : ∀ o ∈ odds, 0 < o) : ∀ (rows : List (List Int)) (at' : Nat) (rest : List Int), RedV odds rest → (∀ r ∈ rows, RedV odds r) →
    (withV odds at' rows rest).length = rows.length ∧ ∀ r ∈ withV odds at' rows rest, RedV odds r
  | [], at', rest, _, _ => ⟨rfl, fun r h => by simp [withV] at h⟩
  | row :: rows, at', rest, hr, h => by
    have h1 := h row (List.mem_cons_self ..)
    obtain ⟨e1, e3⟩ := euc_ok hp at' (row.getD at' 0).toNat row rest h1 hr
    obtain ⟨i1, i2⟩ := withV_ok hp rows (at' + 1) _ e3 (fun r hr => h r (List.mem_cons_of_mem _ hr))
    refine ⟨by show (withV odds (at' + 1) rows _).length + 1 = _; rw [i1]; rfl, fun r hm => ?_⟩
    rcases List.mem_cons.mp hm with rfl | hm
    · exact e1
    · exact i2 r hm
theorem Rows.of {odds : List Int} {rows : List (List Int)} (hb : Bnd odds) (h : rows.length = odds.length) (r : ∀ r ∈ rows, RedV odds r) : Rows odds rows := ⟨h, fun x hx => ⟨(r x hx).len, (r x hx).bnd hb⟩, r⟩
theorem Rows.withV {odds : List Int} {rows : List (List Int)} {v : List Int} (hp : ∀ o ∈ odds, 0 < o) (hb : Bnd odds) (h : Rows odds rows) (hv : v.length = odds.length) : Rows odds (withV odds 0 rows (mod2 v odds)) := by
  obtain ⟨h1, h2⟩ := withV_ok hp rows 0 (mod2 v odds) (mod2_red hv hp) h.red
  exact Rows.of hb (by rw [h1, h.len]) h2
theorem Rows.diag {odds : List Int} (hp : ∀ o ∈ odds, 0 < o) (hb : Bnd odds) : Rows odds (diagI odds) := by
  refine Rows.of hb (by unfold diagI; simp) fun r hr => ?_
  unfold diagI at hr
  obtain ⟨i, hi, rfl⟩ := List.mem_map.mp hr
  have hi' := List.mem_range.mp hi
  refine ⟨by unfold rowI; simp, fun j x o hx ho => ?_⟩
  have hop := hp o (List.mem_of_getElem? ho)
  unfold rowI at hx
  by_cases e : i = j
  · subst e
    rw [List.getElem?_set_self (by simpa using hi'), List.getD_eq_getElem?_getD, ho] at hx
    obtain rfl := Option.some.inj hx
    exact ⟨Int.le_of_lt hop, Int.le_refl o⟩
  · rw [List.getElem?_set_ne e, List.getElem?_replicate] at hx
    split at hx
    · obtain rfl := Option.some.inj hx
      omega
    · cases hx
def pivA (rows : List (List Int)) (i : Nat) : Int := (rows.getD i []).getD i 0
def pivP (rows : List (List Int)) (n : Nat) : Int := (List.range n).foldl (fun c i => c * pivA rows i) 1
theorem pivP_succ (rows : List (List Int)) (n : Nat) : pivP rows (n + 1) = pivP rows n * pivA rows n := by
  unfold pivP
  rw [List.range_succ, List.foldl_append]
  rfl
theorem pow_pos2 : (0 : Nat) < 2 ^ 1000 := Nat.pow_pos (by decide)
theorem pivA_bnd {odds : List Int} {rows : List (List Int)} (h : Rows odds rows) (i : Nat) : (pivA rows i).natAbs < 2 ^ 1000 := by
  unfold pivA
  rw [List.getD_eq_getElem?_getD, List.getD_eq_getElem?_getD]
  cases e : rows[i]? with
  | none => exact pow_pos2
  | some r =>
    cases e2 : r[i]? with
    | none => simp only [Option.getD_some, e2]; exact pow_pos2
    | some x =>
      have h1 := (h.row r (List.mem_of_getElem? e)).2 x (List.mem_of_getElem? e2)
      simpa [e2] using h1
theorem pivP_bnd {odds : List Int} {rows : List (List Int)} (h : Rows odds rows) : ∀ n : Nat, (pivP rows n).natAbs < 2 ^ (1000 * n + 1)
  | 0 => by
    show 1 < 2 ^ 1
    decide
  | n + 1 => by
    rw [pivP_succ, show 1000 * (n + 1) + 1 = (1000 * n + 1) + 1000 by omega]
    exact wide_lt (pivP_bnd h n) (pivA_bnd h n)
def sp_pivot_product (K : PySem.W.Frag) : Sp := fun vs H Q _ => ∃ (b : Addr) (odds : List Int) (rows : List (List Int)), vs = [.ref b] ∧ LstL H b rows ∧ Rows odds rows ∧ odds.length ≤ 4 ∧ ∀ H', Same H H' → Q (.int (pivP rows rows.length)) H'
theorem ok_pivot_product (T : Tx K mg) : FnOk P w K mg base CX0 1 T.f_pivot_product T.fd_pivot_product ["basis"] (sp_pivot_product K) := by
  refine T.F_pivot_product.ok sc_pivot_product (fun vs H Q E h => ?_) (fun cdv A outer s H vs Q E hr h => ?_)
  · obtain ⟨b, odds, rows, rfl, _⟩ := h; rfl
  · obtain ⟨b, odds, rows, rfl, ⟨as, hb, hA⟩, hR, h4, q⟩ := h
    refine ⟨_, (pss_cons (ps_set (i := 1) sc_pivot_product.nd rfl (Or.inl rfl) pe_int)
      (pss_cons (ps_for PassesOwn.never rfl (pi_enH (by rfl) T.n_enumerate (pa_cons (pv 0) pa_nil)) (pg_tupH (n := 2) rfl (pgs_cons (pg_name (i := 2) sc_pivot_product.nd rfl (Or.inl rfl)) (pgs_cons (pg_name (i := 3) sc_pivot_product.nd rfl (Or.inl rfl)) pgs_nil)))
        (pss_one (ps_set (i := 1) sc_pivot_product.nd rfl (Or.inl rfl) (pe_op op_mulA (pv 1) (pe_ix ix_lH (pv 3) (pv 2) (fun _ _ => rfl))))))
      (pss_one (ps_ret (pv 1))))), ?_⟩
    walk_at "rd"
    refine ⟨true, as.map V.ref, hb, fun J W => ?_⟩
    refine forr W (fun i σ H' => Same H H' ∧ ∃ v2 v3, σ = [some (V.ref b), some (V.int (pivP rows i)), v2, v3]) ⟨Same.refl _, none, none, rfl⟩ (fun i σ H' _ h => h.1 _ _ hb) ?_ ?_
    · rintro i x σ2 H2 H3 hi ⟨s2, v2, v3, rfl⟩ ⟨T0, x1, rfl, hT, rfl, hx⟩
      simp only [List.getElem?_map, Option.map_eq_some_iff] at hx
      obtain ⟨a, ha, rfl⟩ := hx
      rw [List.length_map, hA.1] at hi
      have hrow := List.getElem?_eq_getElem hi
      have har := hA.2 i a _ ha hrow
      have hrl := (hR.row _ (List.getElem_mem hi)).1
      have hir : i < rows[i].length := by rw [hrl, ← hR.len]; exact hi
      have sT := Same.new hT (o := .tup [V.int (i : Nat), V.ref a])
      walk_at "rd"
      have hp : pivA rows i = rows[i][i] := by
        unfold pivA
        have e : rows.getD i [] = rows[i] := by rw [List.getD_eq_getElem?_getD, hrow]; rfl
        rw [e, List.getD_eq_getElem?_getD, List.getElem?_eq_getElem hir]
        rfl
      refine ⟨_, sT _ _ (s2 _ _ har), _, atI_nat (by rw [List.getElem?_map, List.getElem?_eq_getElem hir]; rfl), _, rfl, ?_, s2.trans sT, ?_⟩
      · refine .inr (.inr (wide_mul (pivP_bnd hR i) (by rw [← hp]; exact pivA_bnd hR i) (by omega) ?_ ?_))
        · have := hR.len; omega
        · have := hR.len; omega
      · rw [pivP_succ, hp]
    · rintro σ2 H2 ⟨s2, v2, v3, rfl⟩
      walk_at "rd"
      rw [hA.1]
      exact q _ s2
end

section
variable {P : Program} {w : World} {K : PySem.W.Frag} {mg : Str → Option Value} {base : Heap}
def oddsI (ss : List Int) : List Int := ss.map oddI
theorem odds_pos {ss : List Int} (h : ∀ s ∈ ss, 1 ≤ s) : ∀ o ∈ oddsI ss, 0 < o := fun o ho => by
  obtain ⟨s, hs, rfl⟩ := List.mem_map.mp ho
  have h1 := h s hs
  have := odd_pos (n := s.toNat) (by omega)
  unfold oddI
  omega
theorem odds_bnd {ss : List Int} (h : ∀ s ∈ ss, s.natAbs < 2 ^ 1000) : Bnd (oddsI ss) := fun o ho => by
  obtain ⟨s, hs, rfl⟩ := List.mem_map.mp ho
  have h1 := h s hs
  have h2 : oddN s.toNat ≤ s.toNat := Nat.div_le_self _ _
  unfold oddI
  rw [Int.natAbs_natCast]
  omega
def stepB (odds g0 : List Int) (rows : List (List Int)) (g : List Int) : List (List Int) := withV odds 0 rows (mod2 (sub2 g g0) odds)
def shiftB (ss : List Int) (gs : List (List Int)) : List (List Int) := gs.foldl (stepB (oddsI ss) (gs.headD [])) (diagI (oddsI ss))
theorem fold_rows {odds g0 : List Int} (hp : ∀ o ∈ odds, 0 < o) (hb : Bnd odds) (h0 : g0.length = odds.length) : ∀ (gs : List (List Int)) (rows : List (List Int)), (∀ g ∈ gs, g.length = odds.length) → Rows odds rows → Rows odds (gs.foldl (stepB odds g0) rows)
  | [], rows, _, h => h
  | g :: gs, rows, hg, h => fold_rows hp hb h0 gs _ (fun x hx => hg x (List.mem_cons_of_mem _ hx)) (h.withV hp hb (by
      have := hg g (List.mem_cons_self ..)
      unfold sub2
      rw [List.length_zipWith, this, h0, Nat.min_self]))
theorem headD_mem {gs : List (List Int)} (h : gs ≠ []) : gs.headD [] ∈ gs := by
  cases gs with
  | nil => exact absurd rfl h
  | cons g gs => exact List.mem_cons_self ..
theorem shift_rows {ss : List Int} {gs : List (List Int)} (z : Sz ss) (hg : gs ≠ []) (hl : ∀ g ∈ gs, g.length = ss.length) : Rows (oddsI ss) (shiftB ss gs) := by
  have e : (oddsI ss).length = ss.length := by unfold oddsI; simp
  exact fold_rows (odds_pos z.pos) (odds_bnd z.bits) (by rw [e]; exact hl _ (headD_mem hg)) gs _ (fun g h => by rw [e]; exact hl g h) (Rows.diag (odds_pos z.pos) (odds_bnd z.bits))
/-- zeros ahead of the i-th entry -/
def Zer (i : Nat) (r : List Int) : Prop := ∀ j, j < i → r.getD j 0 = 0
/-- a positive i-th entry behind zeros -/
def Pv (i : Nat) (r : List Int) : Prop := Zer i r ∧ 0 < r.getD i 0
theorem getD_zw {g : Int → Int → Int} {xs ys : List Int} {j : Nat} (h1 : j < xs.length) (h2 : j < ys.length) : (List.zipWith g xs ys).getD j 0 = g (xs.getD j 0) (ys.getD j 0) := by
  rw [List.getD_eq_getElem?_getD, zw_get (List.getElem?_eq_getElem h1) (List.getElem?_eq_getElem h2), List.getD_eq_getElem?_getD, List.getD_eq_getElem?_getD, List.getElem?_eq_getElem h1, List.getElem?_eq_getElem h2]
  rfl
theorem low_zer {odds piv rest : List Int} {i : Nat} (hi : i ≤ odds.length) (h1 : piv.length = odds.length) (h2 : rest.length = odds.length) (z1 : Zer i piv) (z2 : Zer i rest) : Zer i (nxtV odds piv rest i) := fun j hj => by
  have l1 := low_len (i := i) h1 h2
  unfold nxtV mod2
  rw [getD_zw (by omega) (by omega)]
  unfold lowV
  rw [getD_zw (by omega) (by omega), z1 j hj, z2 j hj]
  simp
/-- Euclid's steps leave a positive entry in the row and zero in the rest -/
theorem euc_tri {odds : List Int} (hp : ∀ o ∈ odds, 0 < o) {i : Nat} (hi : i < odds.length) : ∀ (f : Nat) (piv rest : List Int), RedV odds piv → RedV odds rest → Zer i rest → Pv i piv → (piv.getD i 0).toNat ≤ f →
    Pv i (euc odds i f piv rest).1 ∧ Zer (i + 1) (euc odds i f piv rest).2
  | 0, piv, rest, h1, h2, z2, z1, hf => by have := z1.2; omega
  | f + 1, piv, rest, h1, h2, z2, z1, hf => by
    show Pv i (if rest.getD i 0 = 0 then (piv, rest) else if (nxtV odds piv rest i).getD i 0 = 0 then (piv, nxtV odds piv rest i) else euc odds i f (nxtV odds piv rest i) piv).1 ∧ Zer (i + 1) (if rest.getD i 0 = 0 then (piv, rest) else if (nxtV odds piv rest i).getD i 0 = 0 then (piv, nxtV odds piv rest i) else euc odds i f (nxtV odds piv rest i) piv).2
    have last : ∀ {r : List Int}, Zer i r → r.getD i 0 = 0 → Zer (i + 1) r := fun {r} z e j hj => by
      by_cases e2 : j < i
      · exact z j e2
      · have : j = i := by omega
        subst this
        exact e
    have hz := low_zer (Nat.le_of_lt hi) h1.len h2.len z1.1 z2
    by_cases h0 : rest.getD i 0 = 0
    · rw [if_pos h0]; exact ⟨z1, last z2 h0⟩
    · rw [if_neg h0]
      obtain ⟨e1, e2, e3⟩ := euc_next hi h1 h2 z1.2
      by_cases h9 : (nxtV odds piv rest i).getD i 0 = 0
      · rw [if_pos h9]; exact ⟨z1, last hz h9⟩
      · rw [if_neg h9]
        exact euc_tri hp hi f _ _ (nxt_red hp h1.len h2.len) h1 z1.1 ⟨hz, by omega⟩ (by omega)
theorem withV_tri {odds : List Int} (hp : ∀ o ∈ odds, 0 < o) : ∀ (rows : List (List Int)) (i : Nat) (rest : List Int), RedV odds rest → Zer i rest → i + rows.length = odds.length → (∀ r ∈ rows, RedV odds r) → (∀ (j : Nat) r, rows[j]? = some r → Pv (i + j) r) →
    ∀ (j : Nat) r, (withV odds i rows rest)[j]? = some r → Pv (i + j) r
  | [], i, rest, _, _, _, _, _, j, r, h => by simp [withV] at h
  | row :: rows, i, rest, hr, z, hl, hrow, hpv, j, r, h => by
    have h1 := hrow row (List.mem_cons_self ..)
    have hi : i < odds.length := by rw [← hl, List.length_cons]; omega
    obtain ⟨e1, e3⟩ := euc_ok hp i (row.getD i 0).toNat row rest h1 hr
    obtain ⟨t1, t2⟩ := euc_tri hp hi (row.getD i 0).toNat row rest h1 hr z (hpv 0 row rfl) (Nat.le_refl _)
    cases j with
    | zero =>
      obtain rfl := Option.some.inj (show some (euc odds i (row.getD i 0).toNat row rest).1 = some r from h)
      exact t1
    | succ j =>
      have := withV_tri hp rows (i + 1) _ e3 t2 (by rw [← hl, List.length_cons]; omega) (fun r hr => hrow r (List.mem_cons_of_mem _ hr)) (fun j r hj => by
        have := hpv (j + 1) r hj
        rw [show i + 1 + j = i + (j + 1) by omega]
        exact this) j r h
      rw [show i + (j + 1) = i + 1 + j by omega]
      exact this
/-- rows with positive pivots behind zeros -/
def Tri (rows : List (List Int)) : Prop := ∀ (j : Nat) r, rows[j]? = some r → Pv j r
theorem diag_tri {odds : List Int} (hp : ∀ o ∈ odds, 0 < o) : Tri (diagI odds) := fun j r h => by
  have hj : j < odds.length := by
    have := (List.getElem?_eq_some_iff.mp h).1
    unfold diagI at this
    simpa using this
  have e : (diagI odds)[j]? = some (rowI odds j) := by
    unfold diagI
    rw [List.getElem?_map, List.getElem?_range hj]
    rfl
  rw [e] at h
  obtain rfl := Option.some.inj h
  unfold rowI
  refine ⟨fun i hi => ?_, ?_⟩
  · rw [List.getD_eq_getElem?_getD, List.getElem?_set_ne (by omega), List.getElem?_replicate]
    split <;> rfl
  · rw [List.getD_eq_getElem?_getD, List.getElem?_set_self (by simpa using hj), Option.getD_some, List.getD_eq_getElem?_getD, List.getElem?_eq_getElem hj]
    exact hp _ (List.getElem_mem hj)
theorem fold_tri {odds g0 : List Int} (hp : ∀ o ∈ odds, 0 < o) (hb : Bnd odds) (h0 : g0.length = odds.length) : ∀ (gs : List (List Int)) (rows : List (List Int)), (∀ g ∈ gs, g.length = odds.length) → Rows odds rows → Tri rows → Tri (gs.foldl (stepB odds g0) rows)
  | [], rows, _, _, h => h
  | g :: gs, rows, hg, hR, h => by
    have hv : (sub2 g g0).length = odds.length := by
      have := hg g (List.mem_cons_self ..)
      unfold sub2
      rw [List.length_zipWith, this, h0, Nat.min_self]
    refine fold_tri hp hb h0 gs _ (fun x hx => hg x (List.mem_cons_of_mem _ hx)) (hR.withV hp hb hv) fun j r hj => ?_
    have := withV_tri hp rows 0 _ (mod2_red hv hp) (fun j hj => absurd hj (Nat.not_lt_zero j)) (by rw [hR.len]; omega) hR.red (fun j r hj => by rw [Nat.zero_add]; exact h j r hj) j r hj
    rw [Nat.zero_add] at this
    exact this
theorem pivA_posT {rows : List (List Int)} (h : Tri rows) {i : Nat} (hi : i < rows.length) : 0 < pivA rows i := by
  have h2 := (h i _ (List.getElem?_eq_getElem hi)).2
  unfold pivA
  rw [show rows.getD i [] = rows[i] by rw [List.getD_eq_getElem?_getD, List.getElem?_eq_getElem hi]; rfl]
  exact h2
theorem pivP_pos {rows : List (List Int)} (h : Tri rows) : ∀ n : Nat, n ≤ rows.length → 0 < pivP rows n
  | 0, _ => by show (0 : Int) < 1; decide
  | n + 1, hn => by
    rw [pivP_succ]
    have h1 := pivP_pos h n (by omega)
    have hi : n < rows.length := by omega
    have h2 := (h n _ (List.getElem?_eq_getElem hi)).2
    have e : pivA rows n = rows[n].getD n 0 := by
      unfold pivA
      rw [show rows.getD n [] = rows[n] by rw [List.getD_eq_getElem?_getD, List.getElem?_eq_getElem hi]; rfl]
    rw [e]
    exact Int.mul_pos h1 h2
theorem piv_ones {rows : List (List Int)} (h : Tri rows) : ∀ n : Nat, n ≤ rows.length → pivP rows n = 1 → ∀ i, i < n → pivA rows i = 1
  | 0, _, _, i, hi => by omega
  | n + 1, hn, e, i, hi => by
    rw [pivP_succ] at e
    have h1 := pivP_pos h n (by omega)
    have h2 := pivA_posT h (i := n) (by omega)
    have e1 := Int.eq_one_of_mul_eq_one_right (Int.le_of_lt h1) e
    have e2 := Int.eq_one_of_mul_eq_one_left (Int.le_of_lt h2) e
    by_cases c : i = n
    · subst c; exact e2
    · exact piv_ones h n (by omega) e1 i (by omega)
theorem withV_one {odds : List Int} (hp : ∀ o ∈ odds, 0 < o) : ∀ (rows : List (List Int)) (i : Nat) (rest : List Int), RedV odds rest → i + rows.length = odds.length → (∀ r ∈ rows, RedV odds r) → (∀ (j : Nat) r, rows[j]? = some r → r.getD (i + j) 0 = 1) → withV odds i rows rest = rows
  | [], _, _, _, _, _, _ => rfl
  | row :: rows, i, rest, hr, hl, hrow, h1 => by
    have hi : i < odds.length := by rw [← hl, List.length_cons]; omega
    have hrr := hrow row (List.mem_cons_self ..)
    have e1 : row.getD i 0 = 1 := h1 0 row rfl
    obtain ⟨_, e3⟩ := euc_ok hp i (row.getD i 0).toNat row rest hrr hr
    have e : (euc odds i (row.getD i 0).toNat row rest).1 = row := by
      rw [e1]
      show (if rest.getD i 0 = 0 then (row, rest) else if (nxtV odds row rest i).getD i 0 = 0 then (row, nxtV odds row rest i) else euc odds i 0 (nxtV odds row rest i) row).1 = row
      split
      · rfl
      · obtain ⟨n1, n2, n3⟩ := euc_next hi hrr hr (by omega)
        rw [if_pos (by omega)]
    show (euc odds i (row.getD i 0).toNat row rest).1 :: withV odds (i + 1) rows (euc odds i (row.getD i 0).toNat row rest).2 = _
    rw [e, withV_one hp rows (i + 1) _ e3 (by rw [← hl, List.length_cons]; omega) (fun r hr => hrow r (List.mem_cons_of_mem _ hr)) fun j r hj => by
      have := h1 (j + 1) r hj
      rw [show i + 1 + j = i + (j + 1) by omega]
      exact this]
/-- a lattice that has all vectors stays as it is -/
theorem fold_done {odds g0 : List Int} (hp : ∀ o ∈ odds, 0 < o) (h0 : g0.length = odds.length) {rows : List (List Int)} (hR : Rows odds rows) (hT : Tri rows) (h1 : pivP rows rows.length = 1) : ∀ (gs : List (List Int)), (∀ g ∈ gs, g.length = odds.length) → gs.foldl (stepB odds g0) rows = rows
  | [], _ => rfl
  | g :: gs, hg => by
    have hv : (sub2 g g0).length = odds.length := by
      have := hg g (List.mem_cons_self ..)
      unfold sub2
      rw [List.length_zipWith, this, h0, Nat.min_self]
    rw [List.foldl_cons]
    have e : stepB odds g0 rows g = rows := withV_one hp rows 0 _ (mod2_red hv hp) (by rw [hR.len]; omega) hR.red fun j r hj => by
      have hj2 := (List.getElem?_eq_some_iff.mp hj).1
      have e := piv_ones hT rows.length (Nat.le_refl _) h1 j hj2
      unfold pivA at e
      rw [List.getD_eq_getElem?_getD (l := rows), hj] at e
      rw [Nat.zero_add]
      exact e
    rw [e]
    exact fold_done hp h0 hR hT h1 gs fun x hx => hg x (List.mem_cons_of_mem _ hx)
/-- targets gs at tg -/
def TgtAt (k : Bool) (H : Hp) (tg : Addr) (gs : List (List Int)) : Prop := ∃ as : List Addr, Sqh k H tg (as.map V.ref) ∧ AsT H as gs
theorem TgtAt.same {k : Bool} {H H' : Hp} {tg : Addr} {gs : List (List Int)} (e : Same H H') (h : TgtAt k H tg gs) : TgtAt k H' tg gs := by
  obtain ⟨as, h1, h2⟩ := h
  exact ⟨as, h1.same e, h2.same e⟩
theorem ix_seq {k : Bool} {H : Hp} {p : Addr} {xs : List V} {i : Int} {v : V} {R : V → Prop} (h : Sqh k H p xs) (hv : atI xs i = some v) (q : R v) :
    (∃ xs, H p = some (HO.lst xs) ∧ ∃ v, atI xs i = some v ∧ R v) ∨ ∃ xs, H p = some (HO.tup xs) ∧ ∃ v, atI xs i = some v ∧ R v := by
  cases k with
  | true => exact .inl ⟨xs, h, v, hv, q⟩
  | false => exact .inr ⟨xs, h, v, hv, q⟩
def MS1 (z tg : Addr) (ss : List Int) (H : Hp) (σ : L2.St) (H' : Hp) : Prop := ∃ o, σ = [some (V.ref z), some (V.ref tg), some (V.ref o), none, none, none] ∧ Same H H' ∧ H' o = some (.lst ((oddsI ss).map V.int))
def MS2 (z tg o : Addr) (ss : List Int) (H : Hp) (σ : L2.St) (H' : Hp) : Prop := ∃ b, σ = [some (V.ref z), some (V.ref tg), some (V.ref o), some (V.ref b), none, none] ∧ Same H H' ∧ LstL H' b (diagI (oddsI ss))
def MS3 (z tg o : Addr) (res : List (List Int)) (H : Hp) (σ : L2.St) (H' : Hp) : Prop := ∃ b v4 v5, σ = [some (V.ref z), some (V.ref tg), some (V.ref o), some (V.ref b), v4, v5] ∧ Same H H' ∧ LstL H' b res
def MS4 (z tg o : Addr) (res : List (List Int)) (H : Hp) (σ : L2.St) (H' : Hp) : Prop := ∃ b v4 v5, σ = [some (V.ref z), some (V.ref tg), some (V.ref o), some (V.ref b), v4, v5] ∧ Same H H' ∧ LstL H' b res
def sp_shift_basis (K : PySem.W.Frag) : Sp := fun vs H Q _ => ∃ (kz k : Bool) (z tg : Addr) (ss : List Int) (gs : List (List Int)), vs = [.ref z, .ref tg] ∧ Sqh kz H z (ss.map V.int) ∧ TgtAt k H tg gs ∧ gs ≠ [] ∧ (∀ g ∈ gs, g.length = ss.length) ∧ Sz ss ∧
  ∀ H' D, Same H H' → LstL H' D (shiftB ss gs) → Q (.ref D) H'
theorem ok_shift_basis (T : Tx K mg) : FnOk P w K mg base CX0 3 T.f_shift_basis T.fd_shift_basis ["sizes", "targets"] (sp_shift_basis K) := by
  refine T.F_shift_basis.ok sc_shift_basis (fun vs H Q E h => ?_) (fun cdv A outer s H vs Q E hr h => ?_)
  · obtain ⟨kz, k, z, tg, ss, gs, rfl, _⟩ := h; rfl
  · obtain ⟨kz, k, zz, tg, ss, gs, rfl, hz, ⟨as, htg, hA⟩, hne, hgl, z, q⟩ := h
    refine ⟨_, (C8.pss_cut (ps_setLc (i := 2) (own := [("size", 5)]) (g := (gName 5)) (tt := tYes) rfl sc_shift_basis.nd rfl rfl (sw_true rfl rfl rfl (by decide +kernel)) (pi_seqH (pv 0)) (blkOk_by (own := [("size", 5)]) (N := N_shift_basis) (sc := defScope d_shift_basis) (by decide +kernel)) (fun _ _ _ _ _ => (pg_name (i := 5) sc_shift_basis.nd rfl (Or.inl rfl))) (fun _ _ _ _ _ => pts_nil) (fun _ _ _ _ _ => (pe_call (ok_odd_part T) (hr.mono (by decide)) (by rfl) T.g_odd_part T.F_odd_part.kp T.b_odd_part .nil pass0 (pa_cons (pv 5) pa_nil))))
      (C8.pss_cut (ps_set (i := 3) sc_shift_basis.nd rfl (Or.inl rfl) (pe_call (ok_diagonal T) (hr.mono (by decide)) (by rfl) T.g_diagonal T.F_diagonal.kp T.b_diagonal .nil pass0 (pa_cons (pv 2) pa_nil)))
      (C8.pss_cut (ps_for PassesOwn.never rfl (pi_seqH (pv 1)) (pg_name (i := 4) sc_shift_basis.nd rfl (Or.inl rfl))
        (C8.pss_cut (ps_set (i := 3) sc_shift_basis.nd rfl (Or.inl rfl) (pe_call (ok_with_vector T) (hr.mono (by decide)) (by rfl) T.g_with_vector T.F_with_vector.kp T.b_with_vector .nil pass0 (pa_cons (pv 3) (pa_cons (pv 2) (pa_cons (pe_call (ok_difference T) (hr.mono (by decide)) (by rfl) T.g_difference T.F_difference.kp T.b_difference .nil pass0 (pa_cons (pv 4) (pa_cons (pe_ix (IxR.or ix_lH ix_tH) (pv 1) pe_int (fun _ _ => rfl)) pa_nil))) pa_nil)))))
        (pss_one (ps_if (pt_cmpR op_eq (pe_call (ok_pivot_product T) (hr.mono (by decide)) (by rfl) T.g_pivot_product T.F_pivot_product.kp T.b_pivot_product .nil pass0 (pa_cons (pv 3) pa_nil)) pe_int (nomark _)) (pss_one (ps_ret (pv 3))) pss_nil))))
      (pss_one (ps_ret (pv 3)))))), ?_⟩
    have el : (oddsI ss).length = ss.length := by unfold oddsI; simp
    have hn4 := z.hi
    have hn1 := z.lo
    refine ⟨MS1 zz tg ss H, ?_, ?_⟩
    · walk_at "rd"
      have main : ∀ (J : It) (G : Hp → Prop), Walk J (ss.map V.int).length G (YAt (ss.map V.int)) → (∀ H', Same H H' → G H') → LcR J (gName 5) tYes (tCall (sp_odd_part K) [] E0 (tCons (tVar 5) tNil)) [5] [some (V.ref zz), some (V.ref tg), none, none, none, none] H fun x H1 => MS1 zz tg ss H [some (V.ref zz), some (V.ref tg), some x, none, none, none] H1 := by
        intro J G W hG
        refine lcr_map W ((oddsI ss).map V.int) (by rw [List.length_map, List.length_map, el]) ?_ hG (fun _ _ _ _ y => YAt.same y) ?_ fun D H3 hD s3 h3 => ⟨D, rfl, s3, h3⟩
        · rw [List.length_map]
          exact Nat.le_trans hn4 (by decide)
        · rintro i x H3 H4 y Qy hi s3 ⟨rfl, hx⟩ hr hq
          unfold oddsI at hr
          simp only [List.getElem?_map, Option.map_eq_some_iff] at hr hx
          obtain ⟨x2, hx2, rfl⟩ := hx
          obtain ⟨r, ⟨r2, hr2, rfl⟩, rfl⟩ := hr
          rw [hx2] at hr2
          obtain rfl := Option.some.inj hr2
          walk_at "rd"
          exact ⟨x2, rfl, z.pos _ (List.mem_of_getElem? hx2), Nat.lt_of_lt_of_le (z.bits _ (List.mem_of_getElem? hx2)) (Nat.pow_le_pow_right (by decide) (by decide)), hq _ (Same.refl _)⟩
      cases kz with
      | true => exact .inl ⟨_, hz, fun J W => main J _ W fun H' s => s _ _ hz⟩
      | false => exact .inr ⟨_, hz, fun J W => main J _ W fun H' s => s _ _ hz⟩
    rintro σ1 H1 ⟨o, rfl, s1, ho⟩
    refine ⟨MS2 zz tg o ss H1, ?_, ?_⟩
    · walk_at "rd"
      exact ⟨o, oddsI ss, rfl, ho, by omega, fun H2 D s2 hD hL => ⟨D, rfl, s2, hL⟩⟩
    rintro σ2 H2 ⟨b, rfl, s2, hb2⟩
    have s02 := s1.trans s2
    have ho2 := s2 _ _ ho
    refine ⟨MS3 zz tg o (shiftB ss gs) H2, ?_, ?_⟩
    · walk_at "rd"
      have htg2 := htg.same s02
      have hA2 := hA.same s02
      have h0m := headD_mem hne
      obtain ⟨a0, ha0⟩ : ∃ a0, as[0]? = some a0 := by
        have : 0 < as.length := by rw [hA.1]; exact List.length_pos_iff.mpr hne
        exact ⟨as[0], List.getElem?_eq_getElem this⟩
      have hg0 : gs[0]? = some (gs.headD []) := by
        cases gs with
        | nil => exact absurd rfl hne
        | cons g gs => rfl
      have main : ∀ (J : It) (G : Hp → Prop), Walk J (as.map V.ref).length G (YAt (as.map V.ref)) → (∀ H', Same H2 H' → G H') → ForR J (gName 4)
          (C8.tCut (tAsg (tCall (sp_with_vector K) [] E0 (tCons (tVar 3) (tCons (tVar 2) (tCons (tCall (sp_difference K) [] E0 (tCons (tVar 4) (tCons (tOp (fun x y H Q => (∃ p, x = V.ref p ∧ ∃ x, y = V.int x ∧ ∃ xs, H p = some (HO.lst xs) ∧ ∃ v, atI xs x = some v ∧ Q v H) ∨
            ∃ p, x = V.ref p ∧ ∃ x, y = V.int x ∧ ∃ xs, H p = some (HO.tup xs) ∧ ∃ v, atI xs x = some v ∧ Q v H) (tVar 1) (tC (V.int 0))) tNil))) tNil)))) (gName 3)) (tIfS (tTest (tOp rEq (tCall (sp_pivot_product K) [] E0 (tCons (tVar 3) tNil)) (tC (V.int 1)))) (tRet (tVar 3)) tNext)) { nx := MS3 zz tg o (shiftB ss gs) H2, rt := Q } [some (V.ref zz), some (V.ref tg), some (V.ref o), some (V.ref b), none, none] H2 := by
        intro J G W hG
        refine forr W (fun i σ H' => ∃ b' v4 v5, σ = [some (V.ref zz), some (V.ref tg), some (V.ref o), some (V.ref b'), v4, v5] ∧ Same H2 H' ∧ LstL H' b' ((gs.take i).foldl (stepB (oddsI ss) (gs.headD [])) (diagI (oddsI ss)))) ⟨b, none, none, rfl, Same.refl _, hb2⟩ (fun i σ H' _ h => by obtain ⟨_, _, _, _, h, _⟩ := h; exact hG _ h) ?_ ?_
        · rintro i x σ3 H3o H3 hi ⟨b', v4, v5, rfl, s3, hb3⟩ ⟨rfl, hx⟩
          simp only [List.getElem?_map, Option.map_eq_some_iff] at hx
          obtain ⟨a, ha, rfl⟩ := hx
          rw [List.length_map, hA.1] at hi
          have hg := List.getElem?_eq_getElem hi
          have hga := (hA2.same s3).2 i a _ ha hg
          have hga0 := (hA2.same s3).2 0 a0 _ ha0 hg0
          have hgl1 := hgl _ (List.getElem_mem hi)
          have hgl0 := hgl _ h0m
          have hsub : (sub2 gs[i] (gs.headD [])).length = (oddsI ss).length := by
            unfold sub2
            rw [List.length_zipWith, hgl1, hgl0, Nat.min_self, el]
          have hR := fold_rows (odds_pos z.pos) (odds_bnd z.bits) (by rw [hgl0, el]) (gs.take i) _ (fun g h => by rw [el]; exact hgl g (List.mem_of_mem_take h)) (Rows.diag (odds_pos z.pos) (odds_bnd z.bits))
          have hTr := fold_tri (odds_pos z.pos) (odds_bnd z.bits) (by rw [hgl0, el]) (gs.take i) _ (fun g h => by rw [el]; exact hgl g (List.mem_of_mem_take h)) (Rows.diag (odds_pos z.pos) (odds_bnd z.bits)) (diag_tri (odds_pos z.pos))
          have hR1 := fold_rows (odds_pos z.pos) (odds_bnd z.bits) (by rw [hgl0, el]) (gs.take (i + 1)) _ (fun g h => by rw [el]; exact hgl g (List.mem_of_mem_take h)) (Rows.diag (odds_pos z.pos) (odds_bnd z.bits))
          have hTr1 := fold_tri (odds_pos z.pos) (odds_bnd z.bits) (by rw [hgl0, el]) (gs.take (i + 1)) _ (fun g h => by rw [el]; exact hgl g (List.mem_of_mem_take h)) (Rows.diag (odds_pos z.pos) (odds_bnd z.bits)) (diag_tri (odds_pos z.pos))
          refine ⟨MS4 zz tg o ((gs.take (i + 1)).foldl (stepB (oddsI ss) (gs.headD [])) (diagI (oddsI ss))) H2, ?_, ?_⟩
          · walk_at "rd"
            have hv0 : atI (as.map V.ref) (0 : Int) = some (V.ref a0) := atI_nat (j := 0) (by rw [List.getElem?_map, ha0]; rfl)
            refine ix_seq (i := 0) (htg2.same s3) hv0 ?_
            refine ⟨false, false, a, a0, gs[i], gs.headD [], rfl, hga, hga0, by rw [hgl1, hgl0], by omega, fun H4 d s4 hd hd4 => ?_⟩
            refine ⟨b', o, d, true, _, oddsI ss, _, rfl, hb3.same s4, s4 _ _ (s3 _ _ ho2), hd4, hR.len, hsub, by omega, by omega, hR.red, fun j r hj => (hTr j r hj).2, odds_pos z.pos, odds_bnd z.bits, fun H5 D s5 hD hL => ?_⟩
            refine ⟨D, _, _, rfl, (s3.trans s4).trans s5, ?_⟩
            rw [List.take_add_one, hg, List.foldl_append]
            exact hL
          rintro σ4 H4 ⟨b4, v4, v5, rfl, s4, hb4⟩
          walk_at "rd"
          refine ⟨b4, oddsI ss, _, rfl, hb4, hR1, by omega, fun H5 s5 => ?_⟩
          walk_at "rd"
          split
          · rename_i e1
            have hfull : shiftB ss gs = (gs.take (i + 1)).foldl (stepB (oddsI ss) (gs.headD [])) (diagI (oddsI ss)) := by
              have := fold_done (odds_pos z.pos) (by rw [hgl0, el]) hR1 hTr1 e1 (gs.drop (i + 1)) fun g h => by rw [el]; exact hgl g (List.mem_of_mem_drop h)
              rw [← List.foldl_append, List.take_append_drop] at this
              exact this
            refine q _ b4 ((s02.trans s4).trans s5) ?_
            rw [hfull]
            exact hb4.same s5
          · exact ⟨s4.trans s5, hb4.same s5⟩
        · rintro σ3 H3 ⟨b', v4, v5, rfl, s3, hb3⟩
          refine ⟨b', v4, v5, rfl, s3, ?_⟩
          rw [List.length_map, hA.1, List.take_length] at hb3
          exact hb3
      cases k with
      | true => exact .inl ⟨_, htg2, fun J W => main J _ W fun H' s => s _ _ htg2⟩
      | false => exact .inr ⟨_, htg2, fun J W => main J _ W fun H' s => s _ _ htg2⟩
    rintro σ3 H3 ⟨b3, v4, v5, rfl, s3, hb3⟩
    walk_at "rd"
    exact q _ b3 (s02.trans s3) hb3
end

section
variable {P : Program} {w : World} {K : PySem.W.Frag} {mg : Str → Option Value} {base : Heap}
theorem or_seq {k : Bool} {H : Hp} {p : Addr} {xs : List V} {R : List V → Prop} (h : Sqh k H p xs) (r : R xs) : (∃ xs, H p = some (HO.lst xs) ∧ R xs) ∨ ∃ xs, H p = some (HO.tup xs) ∧ R xs := by
  cases k with
  | true => exact .inl ⟨xs, h, r⟩
  | false => exact .inr ⟨xs, h, r⟩
def sp_require_seats (K : PySem.W.Frag) : Sp := fun vs H Q _ => ∃ (kz k : Bool) (z tg : Addr) (ss : List Int) (gs : List (List Int)), vs = [.ref z, .ref tg] ∧ Sqh kz H z (ss.map V.int) ∧ TgtAt k H tg gs ∧ gs.Nodup ∧ gs.length < 60 ∧ (∀ g ∈ gs, Seat ss g) ∧ Sz ss ∧ ∀ H', Same H H' → Q .non H'
theorem ok_require_seats (T : Tx K mg) : FnOk P w K mg base CX0 2 T.f_require_seats T.fd_require_seats ["sizes", "seats"] (sp_require_seats K) := by
  refine T.F_require_seats.ok sc_require_seats (fun vs H Q E h => ?_) (fun cdv A outer s H vs Q E hr h => ?_)
  · obtain ⟨kz, k, z, tg, ss, gs, rfl, _⟩ := h; rfl
  · obtain ⟨kz, k, zz, tg, ss, gs, rfl, hz, ⟨as, htg, hA⟩, hnd, h60, hSt, z, q⟩ := h
    refine ⟨_, (pss_cons (ps_if (pt_not (pt_val (pe_callB (call_isAK (K := K) rfl) (by rfl) T.n_isinstance (by decide +kernel) (pa_cons (pv 1) (pa_cons (pe_tup (pa_cons (pe_bltn (v := .ty "list") (by rfl) T.n_list (by decide +kernel) rfl) (pa_cons (pe_bltn (v := .ty "tuple") (by rfl) T.n_tuple (by decide +kernel) rfl) pa_nil))) pa_nil))))) (pss_one ps_never) pss_nil)
      (pss_cons (ps_set (i := 2) sc_require_seats.nd rfl (Or.inl rfl) (pe_callTy0 cr_set0T (by rfl) T.n_set (by decide +kernel)))
      (pss_one (ps_for PassesOwn.never rfl (pi_enH (by rfl) T.n_enumerate (pa_cons (pv 1) pa_nil)) (pg_tupH (n := 2) rfl (pgs_cons (pg_name (i := 3) sc_require_seats.nd rfl (Or.inl rfl)) (pgs_cons (pg_name (i := 4) sc_require_seats.nd rfl (Or.inl rfl)) pgs_nil)))
        (pss_cons (ps_if (PW.pt (pw_or (pt_not (pt_val (pe_call (ok_is_seat T) (hr.mono (by decide)) (by rfl) T.g_is_seat T.F_is_seat.kp T.b_is_seat .nil pass0 (pa_cons (pv 0) (pa_cons (pv 4) pa_nil))))) (pw_or1 (pt_cmpR (op_inT hr.units) (pv 4) (pv 2) rfl)))) (pss_one ps_never) pss_nil)
        (pss_one (ps_expr (pe_addT hr.units (pv 2) (pa_cons (pv 4) pa_nil))))))))), ?_⟩
    walk_at "rd"
    intro tp htp
    have s1 := Same.new htp (o := .tup [V.ty "list", V.ty "tuple"])
    generalize upd H tp (HO.tup [V.ty "list", V.ty "tuple"]) = H1 at s1 ⊢
    refine ⟨true, ?_, ?_⟩
    · cases k with
      | true => exact isA_two (b1 := true) (b2 := false) (.base (.lst (s1 _ _ htg))) (by decide +kernel) (by decide +kernel) rfl
      | false => exact isA_two (b1 := false) (b2 := true) (.base (.tup (s1 _ _ htg))) (by decide +kernel) (by decide +kernel) rfl
    rw [if_neg (by decide)]
    refine ⟨rfl, fun S hS => ?_⟩
    have s2 := Same.new hS (o := SetTO P w S [])
    have f2 : (upd H1 S (SetTO P w S [])) S = some (SetTO P w S []) := upd_same
    generalize upd H1 S (SetTO P w S []) = H2 at s2 f2 ⊢
    have s02 := s1.trans s2
    have hHS : H S = none := by
      cases e : H S with
      | none => rfl
      | some u => rw [s1 _ _ e] at hS; cases hS
    refine ⟨k, as.map V.ref, htg.same s02, fun J W => ?_⟩
    refine forr W (fun i σ H' => Same H H' ∧ ∃ L v3 v4, σ = [some (V.ref zz), some (V.ref tg), some (V.ref S), v3, v4] ∧ H' S = some (SetTO P w S L) ∧ L.length = i ∧ (∀ p ∈ L, H p.1 = some (.tup (p.2.map V.int))) ∧ ∀ g, g ∈ L.map (·.2) ↔ g ∈ gs.take i)
      ⟨s02, [], none, none, rfl, f2, rfl, by simp, by simp⟩ (fun i σ H' _ h => htg.same h.1) ?_ ?_
    · rintro i x σ3 H3 H4 hi ⟨s3, L, v3, v4, rfl, hS3, hLl, hL, hLm⟩ ⟨T0, x1, rfl, hT, rfl, hx⟩
      simp only [List.getElem?_map, Option.map_eq_some_iff] at hx
      obtain ⟨a, ha, rfl⟩ := hx
      rw [List.length_map, hA.1] at hi
      have hg := List.getElem?_eq_getElem hi
      have haH := hA.2 i a _ ha hg
      have hSg := hSt _ (List.getElem_mem hi)
      have sT := Same.new hT (o := .tup [V.int (i : Nat), V.ref a])
      walk_at "rd"
      generalize upd H3 T0 (HO.tup [V.int (i : Nat), V.ref a]) = H4 at sT ⊢
      have s04 := s3.trans sT
      refine ⟨kz, zz, ss, .ref a, true, rfl, hz.same s04, hSg.b z (s04 _ _ haH), fun H5 s5 => ⟨true, rfl, ?_⟩⟩
      rw [if_neg (by decide)]
      have s05 := s04.trans s5
      have hS5 := s5 _ _ (sT _ _ hS3)
      have hgn : gs[i] ∉ gs.take i := by
        intro hm
        obtain ⟨j, hj, e⟩ := List.getElem_of_mem hm
        rw [List.length_take] at hj
        rw [List.getElem_take] at e
        exact absurd e (List.pairwise_iff_getElem.mp hnd j i (by omega) hi (by omega))
      have hgL : gs[i] ∉ L.map (·.2) := fun h => hgn ((hLm _).mp h)
      refine ⟨a, S, gs[i], L, rfl, rfl, s05 _ _ haH, hS5, fun p hp => s05 _ _ (hL p hp), ?_⟩
      refine ⟨_, rfl, ?_⟩
      rw [if_neg Bool.false_ne_true, decide_eq_false hgL, if_neg Bool.false_ne_true]
      simp only [tAddT]
      walk_at "rd"
      refine ⟨⟨L, hS5⟩, a, S, gs[i], L, rfl, rfl, s05 _ _ haH, hS5, fun p hp => s05 _ _ (hL p hp), by omega, fun L' _ hperm => ?_⟩
      have hp := hperm hgL
      refine ⟨fun c u hc => by rw [upd_ne (ne_some hc hHS)]; exact s05 _ _ hc, L', upd_same, by rw [hp.length_eq, List.length_cons, hLl], fun p hpm => ?_, fun g => ?_⟩
      · rcases List.mem_cons.mp (hp.mem_iff.mp hpm) with rfl | h
        · exact haH
        · exact hL p h
      · rw [(hp.map _).mem_iff, List.map_cons, List.mem_cons, hLm]
        have e : gs.take (i + 1) = gs.take i ++ [gs[i]] := by rw [List.take_add_one, hg]; rfl
        rw [e, List.mem_append, List.mem_singleton]
        exact Or.comm
    · rintro σ3 H3 ⟨s3, L, v3, v4, rfl, hS3, hLl, hL, hLm⟩
      exact q _ s3
def sp_require_targets (K : PySem.W.Frag) : Sp := fun vs H Q _ => ∃ (kz k : Bool) (z tg : Addr) (ss : List Int) (gs : List (List Int)), vs = [.ref z, .ref tg] ∧ Sqh kz H z (ss.map V.int) ∧ TgtAt k H tg gs ∧ gs ≠ [] ∧ gs.Nodup ∧ gs.length < 60 ∧ (∀ g ∈ gs, Seat ss g) ∧ Sz ss ∧ ∀ H', Same H H' → Q .non H'
theorem ok_require_targets (T : Tx K mg) : FnOk P w K mg base CX0 3 T.f_require_targets T.fd_require_targets ["sizes", "targets"] (sp_require_targets K) := by
  refine T.F_require_targets.ok sc_require_targets (fun vs H Q E h => ?_) (fun cdv A outer s H vs Q E hr h => ?_)
  · obtain ⟨kz, k, z, tg, ss, gs, rfl, _⟩ := h; rfl
  · obtain ⟨kz, k, zz, tg, ss, gs, rfl, hz, hG, hne, hnd, h60, hSt, z, q⟩ := h
    refine ⟨_, (pss_cons (ps_expr (pe_call (ok_require_seats T) (hr.mono (by decide)) (by rfl) T.g_require_seats T.F_require_seats.kp T.b_require_seats .nil pass0 (pa_cons (pv 0) (pa_cons (pv 1) pa_nil))))
      (pss_one (ps_if (pt_cmpR op_eq (pe_callB len_H (by rfl) T.n_len PySem.boot_len (pa_cons (pv 1) pa_nil)) pe_int (nomark _)) (pss_one ps_never) pss_nil))), ?_⟩
    walk_at "rd"
    refine ⟨kz, k, zz, tg, ss, gs, rfl, hz, hG, hnd, h60, hSt, z, fun H1 s1 => ?_⟩
    obtain ⟨as, htg, hA⟩ := hG.same s1
    have hl0 : 0 < as.length := by rw [hA.1]; exact List.length_pos_iff.mpr hne
    refine or_seq htg ?_
    rw [if_neg (by rw [List.length_map]; omega)]
    exact q _ s1
end

section
variable {P : Program} {w : World} {K : PySem.W.Frag} {mg : Str → Option Value} {base : Heap}
def cosetI (ss : List Int) (gs : List (List Int)) : Int := pivP (shiftB ss gs) ss.length
/-- valid targets -/
structure Tgts (ss : List Int) (gs : List (List Int)) : Prop where
  ne : gs ≠ []
  nd : gs.Nodup
  few : gs.length < 60
  ok : ∀ g ∈ gs, Seat ss g
def sp_coset_count (K : PySem.W.Frag) (C : Addr) : Sp := fun vs H Q _ => ∃ (k : Bool) (a tg : Addr) (ss : List Int) (gs : List (List Int)), vs = [.ref a, .ref tg] ∧ TabAt C H a ss ∧ TgtAt k H tg gs ∧ Tgts ss gs ∧ Sz ss ∧ ∀ H', Same H H' → Q (.int (cosetI ss gs)) H'
theorem ok_coset_count (T : Tx K mg) : FnOk P w K mg base CX0 4 T.f_coset_count T.fd_coset_count ["table", "targets"] (sp_coset_count K T.c_Table) := by
  refine T.F_coset_count.ok sc_coset_count (fun vs H Q E h => ?_) (fun cdv A outer s H vs Q E hr h => ?_)
  · obtain ⟨k, a, tg, ss, gs, rfl, _⟩ := h; rfl
  · obtain ⟨k, a, tg, ss, gs, rfl, hT, hG, hgs, z, q⟩ := h
    refine ⟨_, (pss_cons (ps_set (i := 2) sc_coset_count.nd rfl (Or.inl rfl) (pe_call (ok_sizes_of T) (hr.mono (by decide)) (by rfl) T.g_sizes_of T.F_sizes_of.kp T.b_sizes_of .nil pass0 (pa_cons (pv 0) pa_nil)))
      (pss_cons (ps_expr (pe_call (ok_require_targets T) (hr.mono (by decide)) (by rfl) T.g_require_targets T.F_require_targets.kp T.b_require_targets .nil pass0 (pa_cons (pv 2) (pa_cons (pv 1) pa_nil))))
      (pss_one (ps_ret (pe_call (ok_pivot_product T) (hr.mono (by decide)) (by rfl) T.g_pivot_product T.F_pivot_product.kp T.b_pivot_product .nil pass0 (pa_cons (pe_call (ok_shift_basis T) (hr.mono (by decide)) (by rfl) T.g_shift_basis T.F_shift_basis.kp T.b_shift_basis .nil pass0 (pa_cons (pv 2) (pa_cons (pv 1) pa_nil))) pa_nil)))))), ?_⟩
    walk_at "rd"
    refine ⟨a, ss, rfl, hT, fun t ht => ⟨false, k, t, tg, ss, gs, rfl, ht, hG, hgs.ne, hgs.nd, hgs.few, hgs.ok, z, fun H1 s1 => ?_⟩⟩
    have hlen : ∀ g ∈ gs, g.length = ss.length := fun g hg => (hgs.ok g hg).len
    refine ⟨false, k, t, tg, ss, gs, rfl, s1 _ _ ht, hG.same s1, hgs.ne, hlen, z, fun H2 D s2 hL => ?_⟩
    have hR := shift_rows z hgs.ne hlen
    have hn := hR.len
    have el : (oddsI ss).length = ss.length := by unfold oddsI; simp
    refine ⟨D, oddsI ss, shiftB ss gs, rfl, hL, hR, by have := z.hi; omega, fun H3 s3 => ?_⟩
    rw [hn, el]
    exact q _ ((s1.trans s2).trans s3)
theorem shift_tri {ss : List Int} {gs : List (List Int)} (z : Sz ss) (hg : gs ≠ []) (hl : ∀ g ∈ gs, g.length = ss.length) : Tri (shiftB ss gs) := by
  have e : (oddsI ss).length = ss.length := by unfold oddsI; simp
  exact fold_tri (odds_pos z.pos) (odds_bnd z.bits) (by rw [e]; exact hl _ (headD_mem hg)) gs _ (fun g h => by rw [e]; exact hl g h) (Rows.diag (odds_pos z.pos) (odds_bnd z.bits)) (diag_tri (odds_pos z.pos))
end

section
variable {P : Program} {w : World} {K : PySem.W.Frag} {mg : Str → Option Value} {base : Heap}
theorem walk_itc {lo c : Int} {n : Nat} : Walk (Itc lo c n) n (fun _ => True) (YFn fun i => .int (lo + (i : Nat) * c)) := by
  refine ⟨fun i _ hi _ => hi, fun _ _ => Nat.le_refl _, fun i H v H' _ _ y => y⟩
def BW (B : Nat) (w : List Int) : Prop := ∀ x ∈ w, x.natAbs < 2 ^ B
theorem dot_bnd {a b : Nat} : ∀ (xs ys : List Int), (∀ x ∈ xs, x.natAbs < 2 ^ a) → (∀ y ∈ ys, y.natAbs < 2 ^ b) → (dot xs ys).natAbs < 2 ^ (a + b) * (xs.length + 1)
  | [], _, _, _ => by
    have : 0 < 2 ^ (a + b) := Nat.pow_pos (by decide)
    simpa [dot] using this
  | x :: xs, [], _, _ => by
    have h : 0 < 2 ^ (a + b) := Nat.pow_pos (by decide)
    have : 0 < 2 ^ (a + b) * ((x :: xs).length + 1) := Nat.mul_pos h (Nat.succ_pos _)
    simpa [dot] using this
  | x :: xs, y :: ys, hx, hy => by
    have h1 : (x * y).natAbs < 2 ^ (a + b) := wide_lt (hx x (List.mem_cons_self ..)) (hy y (List.mem_cons_self ..))
    have h2 := dot_bnd xs ys (fun x h => hx x (List.mem_cons_of_mem _ h)) (fun y h => hy y (List.mem_cons_of_mem _ h))
    have h3 : (dot (x :: xs) (y :: ys)).natAbs ≤ (x * y).natAbs + (dot xs ys).natAbs := Int.natAbs_add_le _ _
    rw [List.length_cons, Nat.mul_succ]
    omega
def wstep (rows : List (List Int)) (i : Nat) (w : List Int) : List Int := w.set i (-(dot (rows.getD i []) w) / pivA rows i)
def invC (rows : List (List Int)) (m : Int) (c : Nat) (k : Nat) : List Int := (List.range k).foldl (fun w j => wstep rows (c - 1 - j) w) ((List.replicate rows.length (0 : Int)).set c (m / pivA rows c))
theorem invC_succ (rows : List (List Int)) (m : Int) (c k : Nat) : invC rows m c (k + 1) = wstep rows (c - 1 - k) (invC rows m c k) := by
  unfold invC
  rw [List.range_succ, List.foldl_append]
  rfl
theorem invC_len (rows : List (List Int)) (m : Int) (c : Nat) : ∀ k, (invC rows m c k).length = rows.length
  | 0 => by unfold invC; simp
  | k + 1 => by rw [invC_succ]; unfold wstep; rw [List.length_set, invC_len rows m c k]
theorem row_at {odds : List Int} {rows : List (List Int)} (h : Rows odds rows) {i : Nat} (hi : i < rows.length) : rows.getD i [] = rows[i] ∧ rows[i].length = odds.length ∧ Bnd rows[i] := by
  refine ⟨by rw [List.getD_eq_getElem?_getD, List.getElem?_eq_getElem hi]; rfl, h.row _ (List.getElem_mem hi)⟩
theorem invC_bnd {odds : List Int} {rows : List (List Int)} (h : Rows odds rows) (h4 : odds.length ≤ 4) {m : Int} (hm : m.natAbs < 2 ^ 4001) (c : Nat) : ∀ k, BW (4001 + 1003 * k) (invC rows m c k)
  | 0 => fun x hx => by
    unfold invC at hx
    rcases List.mem_or_eq_of_mem_set hx with h1 | h1
    · rw [(List.mem_replicate.mp h1).2]
      exact Nat.pow_pos (by decide)
    · rw [h1]
      exact Nat.lt_of_le_of_lt (Int.natAbs_ediv_le_natAbs _ _) hm
  | k + 1 => fun x hx => by
    have ih := invC_bnd h h4 hm c k
    rw [invC_succ] at hx
    unfold wstep at hx
    have hmono : 2 ^ (4001 + 1003 * k) ≤ 2 ^ (4001 + 1003 * (k + 1)) := Nat.pow_le_pow_right (by decide) (by omega)
    rcases List.mem_or_eq_of_mem_set hx with h1 | h1
    · exact Nat.lt_of_lt_of_le (ih x h1) hmono
    · rw [h1]
      refine Nat.lt_of_le_of_lt (Int.natAbs_ediv_le_natAbs _ _) ?_
      rw [Int.natAbs_neg]
      have hrow : (∀ x ∈ rows.getD (c - 1 - k) [], x.natAbs < 2 ^ 1000) ∧ (rows.getD (c - 1 - k) []).length ≤ 4 := by
        rw [List.getD_eq_getElem?_getD]
        cases e : rows[c - 1 - k]? with
        | none => simp
        | some r =>
          obtain ⟨h5, h6⟩ := h.row r (List.mem_of_getElem? e)
          exact ⟨h6, by rw [Option.getD_some, h5]; exact h4⟩
      have h7 := dot_bnd (a := 1000) (b := 4001 + 1003 * k) _ _ hrow.1 ih
      have h8 : 2 ^ (1000 + (4001 + 1003 * k)) * ((rows.getD (c - 1 - k) []).length + 1) ≤ 2 ^ (1000 + (4001 + 1003 * k)) * 8 := Nat.mul_le_mul_left _ (by omega)
      have h9 : 2 ^ (1000 + (4001 + 1003 * k)) * 8 = 2 ^ (4001 + 1003 * (k + 1)) := by
        rw [show (8 : Nat) = 2 ^ 3 by rfl, ← Nat.pow_add]
        congr 1
        omega
      omega
theorem wide_mono {x : Int} {a b : Nat} (h : x.natAbs < 2 ^ a) (hab : a ≤ b) : x.natAbs < 2 ^ b := Nat.lt_of_lt_of_le h (Nat.pow_le_pow_right (by decide) hab)
def MI1 (b : Addr) (m : Int) (c : Nat) (n : Nat) (H : Hp) (σ : L2.St) (H' : Hp) : Prop := ∃ D, σ = [some (V.ref b), some (V.int m), some (V.int (c : Nat)), some (V.ref D), none] ∧ Same H H' ∧ H D = none ∧ H' D = some (.lst ((List.replicate n (0 : Int)).map V.int))
def MI2 (b D : Addr) (m : Int) (c : Nat) (w : List Int) (H : Hp) (σ : L2.St) (H' : Hp) : Prop := ∃ v4, σ = [some (V.ref b), some (V.int m), some (V.int (c : Nat)), some (V.ref D), v4] ∧ Same H H' ∧ H' D = some (.lst (w.map V.int))
def sp_inverse_column (K : PySem.W.Frag) : Sp := fun vs H Q _ => ∃ (b : Addr) (m : Int) (c : Nat) (odds : List Int) (rows : List (List Int)), vs = [.ref b, .int m, .int (c : Nat)] ∧ LstL H b rows ∧ Rows odds rows ∧ Tri rows ∧ odds.length ≤ 4 ∧ c < rows.length ∧ m.natAbs < 2 ^ 4001 ∧
  ∀ H' D, Same H H' → H D = none → H' D = some (.lst ((invC rows m c c).map V.int)) → Q (.ref D) H'
theorem ok_inverse_column (T : Tx K mg) : FnOk P w K mg base CX0 2 T.f_inverse_column T.fd_inverse_column ["basis", "modulus", "column"] (sp_inverse_column K) := by
  refine T.F_inverse_column.ok sc_inverse_column (fun vs H Q E h => ?_) (fun cdv A outer s H vs Q E hr h => ?_)
  · obtain ⟨b, m, c, odds, rows, rfl, _⟩ := h; rfl
  · obtain ⟨b, m, c, odds, rows, rfl, ⟨as, hb, hA⟩, hR, hTr, h4, hc, hm, q⟩ := h
    refine ⟨_, (C8.pss_cut (ps_set (i := 3) sc_inverse_column.nd rfl (Or.inl rfl) (pe_op op_rep (pe_lst (pa_cons pe_int pa_nil)) (pe_callB len_H (by rfl) T.n_len PySem.boot_len (pa_cons (pv 0) pa_nil))))
      (C8.pss_cut (ps_asg (pe_op op_fdivW (pv 1) (pe_ix ix_lH (pe_ix ix_lH (pv 0) (pv 2) (fun _ _ => rfl)) (pv 2) (fun _ _ => rfl))) (pg_sub (pv 3) (pv 2) set_lH))
      (C8.pss_cut (ps_for PassesOwn.never rfl (pi_revR (by rfl) T.n_reversed (prg_1 (by rfl) T.n_range (pv 2))) (pg_name (i := 4) sc_inverse_column.nd rfl (Or.inl rfl))
        (pss_one (ps_asg (pe_op op_fdivW (pe_un un_neg (pe_call (ok_weighted_sum T) (hr.mono (by decide)) (by rfl) T.g_weighted_sum T.F_weighted_sum.kp T.b_weighted_sum .nil pass0 (pa_cons (pe_ix ix_lH (pv 0) (pv 4) (fun _ _ => rfl)) (pa_cons (pv 3) pa_nil)))) (pe_ix ix_lH (pe_ix ix_lH (pv 0) (pv 4) (fun _ _ => rfl)) (pv 4) (fun _ _ => rfl))) (pg_sub (pv 3) (pv 4) set_lH))))
      (pss_one (ps_ret (pv 3)))))), ?_⟩
    have hrn := hR.len
    have rowr : ∀ {G : Hp} {i : Nat}, Same H G → (hi : i < rows.length) → ∃ a, as[i]? = some a ∧ G b = some (.lst (as.map V.ref)) ∧ G a = some (.lst (rows[i].map V.int)) := fun {G i} s hi => by
      have hia : i < as.length := by rw [hA.1]; exact hi
      exact ⟨as[i], List.getElem?_eq_getElem hia, s _ _ hb, s _ _ (hA.2 i _ _ (List.getElem?_eq_getElem hia) (List.getElem?_eq_getElem hi))⟩
    have pivr : ∀ {i : Nat} (hi : i < rows.length), rows[i][i]? = some (pivA rows i) ∧ 0 < pivA rows i := fun {i} hi => by
      obtain ⟨e1, e2, e3⟩ := row_at hR hi
      have hii : i < rows[i].length := by rw [e2]; omega
      have hp := (hTr i _ (List.getElem?_eq_getElem hi)).2
      have e : pivA rows i = rows[i].getD i 0 := by unfold pivA; rw [e1]
      refine ⟨?_, by rw [e]; exact hp⟩
      rw [e, List.getD_eq_getElem?_getD, List.getElem?_eq_getElem hii]
      rfl
    refine ⟨MI1 b m c rows.length H, ?_, ?_⟩
    · walk_at "rd"
      intro p hp
      have sp := Same.new hp (o := .lst [V.int 0])
      have fp : (upd H p (.lst [V.int 0])) p = some (.lst [V.int 0]) := upd_same
      generalize upd H p (HO.lst [V.int 0]) = H1 at sp fp ⊢
      refine .inl ⟨_, sp _ _ hb, p, (rows.length : Int), [V.int 0], rfl, by rw [List.length_map, hA.1], fp, by omega, by omega, ?_, fun r hr => ?_⟩
      · rw [Int.toNat_natCast]
        exact Nat.le_trans (by simp; omega : [V.int 0].length * rows.length ≤ 4) (by decide)
      · rw [Int.toNat_natCast, flat0]
        have hr3 : H r = none := by
          cases e2 : H r with
          | none => rfl
          | some o => rw [sp _ _ e2] at hr; cases hr
        exact ⟨r, rfl, sp.trans (Same.new hr), hr3, upd_same⟩
    rintro σ1 H1 ⟨D, rfl, s1, hD, hD1⟩
    refine ⟨MI2 b D m c (invC rows m c 0) H, ?_, ?_⟩
    · walk_at "rd"
      obtain ⟨a, ha, hb1, har⟩ := rowr s1 hc
      obtain ⟨e1, e2⟩ := pivr hc
      refine ⟨_, hb1, .ref a, atI_nat (by rw [List.getElem?_map, ha]; rfl), a, rfl, _, har, .int (pivA rows c), atI_nat (by rw [List.getElem?_map, e1]; rfl), _, rfl, wide_div (b := 1000) e2 (pivA_bnd hR c) (by decide) (by decide), _, hD1, c, ixN_in (by rw [List.length_map, List.length_replicate]; exact hc), none, rfl, ?_, ?_⟩
      · intro x o hx
        rw [upd_ne (ne_some hx hD)]
        exact s1 _ _ hx
      · rw [upd_same]
        unfold invC
        rw [List.range_zero, List.foldl_nil, List.map_set]
    rintro σ2 H2 ⟨v4, rfl, s2, hD2⟩
    refine ⟨MI2 b D m c (invC rows m c c) H, ?_, ?_⟩
    · walk_at "rd"
      refine ⟨by omega, by omega, ?_⟩
      rw [show ((c : Int) - 0).toNat = c by omega]
      refine forr walk_itc (fun i σ H' => ∃ v4, σ = [some (V.ref b), some (V.int m), some (V.int (c : Nat)), some (V.ref D), v4] ∧ Same H H' ∧ H' D = some (.lst ((invC rows m c i).map V.int))) ⟨v4, rfl, s2, hD2⟩ (fun _ _ _ _ _ => trivial) ?_ ?_
      · rintro i x σ3 H3o H3 hi ⟨v4, rfl, s3, hD3⟩ ⟨rfl, hx⟩
        have hj : c - 1 - i < rows.length := by omega
        have hx2 : x = V.int ((c - 1 - i : Nat) : Int) := by
          rw [hx]
          show V.int (0 + (c : Int) - 1 + (i : Nat) * -1) = _
          congr 1
          omega
        subst hx2
        obtain ⟨a, ha, hb3, har⟩ := rowr s3 hj
        obtain ⟨e1, e2⟩ := pivr hj
        obtain ⟨r1, r2, r3⟩ := row_at hR hj
        have hw := invC_len rows m c i
        have hwb := invC_bnd hR h4 hm c i
        walk_at "rd"
        refine ⟨_, hb3, .ref a, atI_nat (by rw [List.getElem?_map, ha]; rfl), ?_⟩
        refine ⟨true, true, a, D, rows[c - 1 - i], invC rows m c i, rfl, har, hD3, by rw [r2, hw, hrn], by omega, fun j x y hx hy => ?_, fun H4 s4 => ?_⟩
        · exact .inr (.inr (wide_mul (a := 1000) (b := 4001 + 1003 * i) (r3 x (List.mem_of_getElem? hx)) (hwb y (List.mem_of_getElem? hy)) (by decide) (by omega) (by omega)))
        obtain ⟨a', ha', hb4, har4⟩ := rowr (s3.trans s4) hj
        refine ⟨_, rfl, _, hb4, .ref a', atI_nat (by rw [List.getElem?_map, ha']; rfl), a', rfl, _, har4, .int (pivA rows (c - 1 - i)), atI_nat (by rw [List.getElem?_map, e1]; rfl), _, rfl, wide_div (b := 1000) e2 (pivA_bnd hR _) (by decide) (by decide), _, s4 _ _ hD3, c - 1 - i, ixN_in (by rw [List.length_map, hw]; exact hj), ?_, ?_⟩
        · intro x o hx
          rw [upd_ne (ne_some hx hD)]
          exact s4 _ _ (s3 _ _ hx)
        · rw [invC_succ]
          unfold wstep
          rw [List.map_set, r1]
      · rintro σ3 H3 ⟨v4, rfl, s3, hD3⟩
        exact ⟨v4, rfl, s3, hD3⟩
    rintro σ3 H3 ⟨v4, rfl, s3, hD3⟩
    walk_at "rd"
    exact q _ D s3 hD hD3
end

section
variable {P : Program} {w : World} {K : PySem.W.Frag} {mg : Str → Option Value} {base : Heap}
def gcdW (m : Int) (ws : List Int) : Int := ws.foldl (fun c x => ((Nat.gcd c.natAbs x.natAbs : Nat) : Int)) m
def smallW (m : Int) (ws : List Int) : Int := m / gcdW m ws
def redW (m : Int) (ws : List Int) : List Int := ws.map fun x => x / gcdW m ws % smallW m ws
theorem gcdW_dvd : ∀ (ws : List Int) (m : Int), 0 < m → 0 < gcdW m ws ∧ gcdW m ws ∣ m ∧ ∀ x ∈ ws, gcdW m ws ∣ x
  | [], m, h => ⟨h, Int.dvd_refl _, by simp⟩
  | x :: ws, m, h => by
    have hg : 0 < Nat.gcd m.natAbs x.natAbs := Nat.gcd_pos_of_pos_left _ (by omega)
    obtain ⟨h1, h2, h3⟩ := gcdW_dvd ws ((Nat.gcd m.natAbs x.natAbs : Nat) : Int) (by omega)
    have g1 : ((Nat.gcd m.natAbs x.natAbs : Nat) : Int) ∣ m := by
      rw [← Int.natAbs_dvd_natAbs, Int.natAbs_natCast]; exact Nat.gcd_dvd_left _ _
    have g2 : ((Nat.gcd m.natAbs x.natAbs : Nat) : Int) ∣ x := by
      rw [← Int.natAbs_dvd_natAbs, Int.natAbs_natCast]; exact Nat.gcd_dvd_right _ _
    refine ⟨h1, Int.dvd_trans h2 g1, fun y hy => ?_⟩
    rcases List.mem_cons.mp hy with rfl | hy
    · exact Int.dvd_trans h2 g2
    · exact h3 y hy
theorem smallW_pos {ws : List Int} {m : Int} (h : 0 < m) : 0 < smallW m ws := by
  obtain ⟨h1, h2, _⟩ := gcdW_dvd ws m h
  unfold smallW
  exact Int.ediv_pos_of_pos_of_dvd h (by omega) h2
def sp_common_divisor (K : PySem.W.Frag) : Sp := fun vs H Q _ => ∃ (k : Bool) (m : Int) (a : Addr) (ws : List Int), vs = [.int m, .ref a] ∧ Sqh k H a (ws.map V.int) ∧ Q (.int (gcdW m ws)) H
theorem ok_common_divisor (T : Tx K mg) : FnOk P w K mg base CX0 1 T.f_common_divisor T.fd_common_divisor ["modulus", "weights"] (sp_common_divisor K) := by
  refine T.F_common_divisor.ok sc_common_divisor (fun vs H Q E h => ?_) (fun cdv A outer s H vs Q E hr h => ?_)
  · obtain ⟨k, m, a, ws, rfl, _⟩ := h; rfl
  · obtain ⟨k, m, a, ws, rfl, ha, q⟩ := h
    refine ⟨_, (pss_cons (ps_set (i := 2) sc_common_divisor.nd rfl (Or.inl rfl) (pv 0))
      (pss_cons (ps_for PassesOwn.never rfl (pi_seqH (pv 1)) (pg_name (i := 3) sc_common_divisor.nd rfl (Or.inl rfl))
        (pss_one (ps_set (i := 2) sc_common_divisor.nd rfl (Or.inl rfl) (pe_callBfun cr_gcd (by rfl) T.b_gcd (pa_cons (pv 2) (pa_cons (pv 3) pa_nil))))))
      (pss_one (ps_ret (pv 2))))), ?_⟩
    walk_at "rd"
    have fin : ∀ (J : It) (G : Hp → Prop), Walk J (ws.map V.int).length G (YAt (ws.map V.int)) → G H → ForR J (gName 3) (tAsg (tCB rGcd (tCons (tVar 2) (tCons (tVar 3) tNil))) (gName 2)) { nx := fun σ' H' => tRet (tVar 2) { nx := fun _ H' => Q V.non H', rt := Q } σ' H', rt := Q } [some (V.int m), some (V.ref a), some (V.int m), none] H := by
      intro J G W hG
      refine forr W (fun i σ H' => H' = H ∧ ∃ v3, σ = [some (V.int m), some (V.ref a), some (V.int (gcdW m (ws.take i))), v3]) ⟨rfl, none, rfl⟩ (fun i σ H' _ h => by rw [h.1]; exact hG) ?_ ?_
      · rintro i x σ2 H2o H2 hi ⟨rfl, v4, rfl⟩ ⟨rfl, hx⟩
        simp only [List.getElem?_map, Option.map_eq_some_iff] at hx
        obtain ⟨y, hy, rfl⟩ := hx
        walk_at "rd"
        have e : gcdW m (ws.take (i + 1)) = ((Nat.gcd (gcdW m (ws.take i)).natAbs y.natAbs : Nat) : Int) := by
          unfold gcdW
          rw [List.take_add_one, hy, List.foldl_append]
          rfl
        rw [e]
      · rintro σ2 H2 ⟨rfl, v4, rfl⟩
        rw [List.length_map, List.take_length]
        walk_at "rd"
        exact q
    cases k with
    | true => exact .inl ⟨_, ha, fun J W => fin J _ W ha⟩
    | false => exact .inr ⟨_, ha, fun J W => fin J _ W ha⟩
def MH2 (m : Int) (a t : Addr) (c : Int) (H : Hp) (σ : L2.St) (H' : Hp) : Prop := σ = [some (V.int m), some (V.ref a), some (V.ref t), some (V.int c), none, none, none] ∧ H' = H
def MH2b (m : Int) (a t : Addr) (c s : Int) (H : Hp) (σ : L2.St) (H' : Hp) : Prop := σ = [some (V.int m), some (V.ref a), some (V.ref t), some (V.int c), some (V.int s), none, none] ∧ H' = H
def MH3 (m : Int) (a t : Addr) (c s : Int) (red : List Int) (H : Hp) (σ : L2.St) (H' : Hp) : Prop := ∃ r, σ = [some (V.int m), some (V.ref a), some (V.ref t), some (V.int c), some (V.int s), some (V.ref r), none] ∧ Same H H' ∧ H' r = some (.tup (red.map V.int))
def sp_short_witness (K : PySem.W.Frag) : Sp := fun vs H Q _ => ∃ (k : Bool) (m : Int) (a t : Addr) (ws gt : List Int), vs = [.int m, .ref a, .ref t] ∧ 0 < m ∧ m.natAbs < 2 ^ 4001 ∧ H a = some (.lst (ws.map V.int)) ∧ Sqh k H t (gt.map V.int) ∧ ws.length = gt.length ∧ ws.length ≤ 64 ∧ BW 9000 ws ∧ BW 9000 gt ∧
  ∀ H' D r, Same H H' → H' D = some (.tup [V.int (smallW m ws), .ref r, .int (dot (redW m ws) gt % smallW m ws)]) → H' r = some (.tup ((redW m ws).map V.int)) → Q (.ref D) H'
theorem ok_short_witness (T : Tx K mg) : FnOk P w K mg base CX0 2 T.f_short_witness T.fd_short_witness ["modulus", "weights", "target"] (sp_short_witness K) := by
  refine T.F_short_witness.ok sc_short_witness (fun vs H Q E h => ?_) (fun cdv A outer s H vs Q E hr h => ?_)
  · obtain ⟨k, m, a, t, ws, gt, rfl, _⟩ := h; rfl
  · obtain ⟨k, m, a, t, ws, gt, rfl, hm, hmb, ha, ht, hl, h64, hwb, hgb, q⟩ := h
    refine ⟨_, (C8.pss_cut (ps_set (i := 3) sc_short_witness.nd rfl (Or.inr rfl) (pe_call (ok_common_divisor T) (hr.mono (by decide)) (by rfl) T.g_common_divisor T.F_common_divisor.kp T.b_common_divisor .nil pass0 (pa_cons (pv 0) (pa_cons (pv 1) pa_nil))))
      (C8.pss_cut (ps_set (i := 4) sc_short_witness.nd rfl (Or.inr rfl) (pe_op op_fdivW (pv 0) (pv 3)))
      (C8.pss_cut (ps_set (i := 5) sc_short_witness.nd rfl (Or.inl rfl) (pe_callTy tuple_H (by rfl) T.n_tuple (by decide +kernel) (pa_cons (pe_lc (own := [("weight", 6)]) (g := (gName 6)) (tt := tYes) rfl sc_short_witness.nd (pi_seqH (pv 1)) (blkOk_by (own := [("weight", 6)]) (N := N_short_witness) (sc := defScope d_short_witness) (by decide +kernel)) (fun _ _ _ _ _ => (pg_name (i := 6) sc_short_witness.nd rfl (Or.inl rfl))) (fun _ _ _ _ _ => pts_nil) (fun _ _ _ _ _ => (pe_op op_mod (pe_op op_fdivW (pv 6) (pv 3)) (pv 4)))) pa_nil)))
      (pss_one (ps_ret (pe_tup (pa_cons (pv 4) (pa_cons (pv 5) (pa_cons (pe_op op_mod (pe_call (ok_weighted_sum T) (hr.mono (by decide)) (by rfl) T.g_weighted_sum T.F_weighted_sum.kp T.b_weighted_sum .nil pass0 (pa_cons (pv 5) (pa_cons (pv 2) pa_nil))) (pv 4)) pa_nil))))))))), ?_⟩
    obtain ⟨g1, g2, g3⟩ := gcdW_dvd ws m hm
    have gs := smallW_pos (ws := ws) hm
    have hgc : (gcdW m ws).natAbs < 2 ^ 4001 := by
      have := Int.le_of_dvd hm g2
      omega
    refine ⟨MH2 m a t (gcdW m ws) H, ?_, ?_⟩
    · walk_at "rd"
      exact ⟨true, m, a, ws, rfl, ha, rfl, rfl⟩
    rintro σ2 H2 ⟨rfl, rfl⟩
    refine ⟨MH2b m a t (gcdW m ws) (smallW m ws) H2, ?_, ?_⟩
    · walk_at "rd"
      exact ⟨wide_div (b := 4001) g1 hgc (by decide) (by decide), rfl, rfl⟩
    rintro σ3 H3 ⟨rfl, rfl⟩
    refine ⟨MH3 m a t (gcdW m ws) (smallW m ws) (redW m ws) H3, ?_, ?_⟩
    · walk_at "rd"
      refine .inl ⟨_, ha, fun J W => ?_⟩
      refine lcr_map W ((redW m ws).map V.int) (by unfold redW; simp) (by rw [List.length_map]; exact Nat.le_trans h64 (by decide)) (fun H4 s4 => s4 _ _ ha) (fun _ _ _ _ y => YAt.same y) ?_ fun D H4 hD s4 h4 => ⟨D, rfl, .inl ⟨_, h4, fun r hr => ⟨r, rfl, s4.trans (Same.new hr), upd_same⟩⟩⟩
      rintro i x H4 H5 y Qy hi s4 ⟨rfl, hx⟩ hr hq
      unfold redW at hr
      simp only [List.getElem?_map, Option.map_eq_some_iff] at hr hx
      obtain ⟨x2, hx2, rfl⟩ := hx
      obtain ⟨r, ⟨r2, hr2, rfl⟩, rfl⟩ := hr
      rw [hx2] at hr2
      obtain rfl := Option.some.inj hr2
      walk_at "rd"
      exact ⟨wide_div (b := 4001) g1 hgc (by decide) (by decide), gs, hq _ (Same.refl _)⟩
    rintro σ4 H4 ⟨r, rfl, s4, hr4⟩
    walk_at "rd"
    have hrl : (redW m ws).length = ws.length := by unfold redW; simp
    refine ⟨false, k, r, t, redW m ws, gt, rfl, hr4, ht.same s4, by rw [hrl, hl], by omega, fun i x y hx hy => ?_, fun H5 s5 => ?_⟩
    · have hx0 : 0 ≤ x ∧ x < smallW m ws := by
        have hxm := List.mem_of_getElem? hx
        unfold redW at hxm
        obtain ⟨u, _, rfl⟩ := List.mem_map.mp hxm
        exact ⟨Int.emod_nonneg _ (by omega), Int.emod_lt_of_pos _ gs⟩
      have hsm : smallW m ws ≤ m := by
        unfold smallW
        exact Int.ediv_le_self _ (by omega)
      exact .inr (.inr (wide_mul (a := 4001) (b := 9000) (by omega) (hgb y (List.mem_of_getElem? hy)) (by decide) (by decide) (by decide)))
    · refine ⟨_, rfl, gs, fun D hD => ?_⟩
      have sD := Same.new hD (o := .tup [V.int (smallW m ws), V.ref r, V.int (dot (redW m ws) gt % smallW m ws)])
      exact q _ D r ((s4.trans s5).trans sD) upd_same (sD _ _ (s5 _ _ hr4))
/-! reach -/
/-- the first column whose weights tell the shift from the lattice -/
def colF (rows : List (List Int)) (n : Nat) (v : List Int) (c : Nat) : Bool := !decide (dot (invC rows (pivP rows n) c c) v % pivP rows n = 0)
def reachI (ss : List Int) (gs : List (List Int)) (p : List Int) : Option Nat := (List.range ss.length).find? (colF (shiftB ss gs) ss.length (sub2 p (gs.headD [])))
/-- what reach answers, at D -/
def RchAt (H : Hp) (D : Addr) (ss : List Int) (gs : List (List Int)) (p : List Int) : Prop := (reachI ss gs p = none ∧ H D = some (.tup [.str "reachable"])) ∨
  ∃ (c : Nat) (u r : Addr), reachI ss gs p = some c ∧ H D = some (.tup [.str "unreachable", .ref u]) ∧ H u = some (.tup [.int (smallW (cosetI ss gs) (invC (shiftB ss gs) (cosetI ss gs) c c)), .ref r, .int (dot (redW (cosetI ss gs) (invC (shiftB ss gs) (cosetI ss gs) c c)) (gs.headD []) % smallW (cosetI ss gs) (invC (shiftB ss gs) (cosetI ss gs) c c))]) ∧
    H r = some (.tup ((redW (cosetI ss gs) (invC (shiftB ss gs) (cosetI ss gs) c c)).map V.int))
def MR1 (a tg p : Addr) (ss : List Int) (H : Hp) (σ : L2.St) (H' : Hp) : Prop := ∃ t, σ = [some (V.ref a), some (V.ref tg), some (V.ref p), some (V.ref t), none, none, none, none, none] ∧ Same H H' ∧ H' t = some (.tup (ss.map V.int))
def MR2 (a tg p t : Addr) (H : Hp) (σ : L2.St) (H' : Hp) : Prop := σ = [some (V.ref a), some (V.ref tg), some (V.ref p), some (V.ref t), none, none, none, none, none] ∧ Same H H'
def MR3 (a tg p t : Addr) (rows : List (List Int)) (H : Hp) (σ : L2.St) (H' : Hp) : Prop := ∃ b, σ = [some (V.ref a), some (V.ref tg), some (V.ref p), some (V.ref t), some (V.ref b), none, none, none, none] ∧ Same H H' ∧ LstL H' b rows
def MR4 (a tg p t b : Addr) (v : List Int) (H : Hp) (σ : L2.St) (H' : Hp) : Prop := ∃ d, σ = [some (V.ref a), some (V.ref tg), some (V.ref p), some (V.ref t), some (V.ref b), some (V.ref d), none, none, none] ∧ Same H H' ∧ H' d = some (.lst (v.map V.int))
def MR5 (a tg p t b d : Addr) (m : Int) (H : Hp) (σ : L2.St) (H' : Hp) : Prop := σ = [some (V.ref a), some (V.ref tg), some (V.ref p), some (V.ref t), some (V.ref b), some (V.ref d), some (V.int m), none, none] ∧ Same H H'
def MR6 (N : Prop) (H : Hp) (σ : L2.St) (H' : Hp) : Prop := σ.length = 9 ∧ Same H H' ∧ N
def MR7 (a tg p t b d : Addr) (m : Int) (c : Nat) (w : List Int) (H : Hp) (σ : L2.St) (H' : Hp) : Prop := ∃ u, σ = [some (V.ref a), some (V.ref tg), some (V.ref p), some (V.ref t), some (V.ref b), some (V.ref d), some (V.int m), some (V.int (c : Nat)), some (V.ref u)] ∧ Same H H' ∧ H' u = some (.lst (w.map V.int))
def sp_reach (K : PySem.W.Frag) (C : Addr) : Sp := fun vs H Q _ => ∃ (k : Bool) (a tg p : Addr) (ss : List Int) (gs : List (List Int)) (ps : List Int), vs = [.ref a, .ref tg, .ref p] ∧ TabAt C H a ss ∧ TgtAt k H tg gs ∧ Tgts ss gs ∧ Sz ss ∧ H p = some (.tup (ps.map V.int)) ∧ Seat ss ps ∧
  ∀ H' D, Same H H' → RchAt H' D ss gs ps → Q (.ref D) H'
theorem ok_reach (T : Tx K mg) : FnOk P w K mg base CX0 4 T.f_reach T.fd_reach ["table", "targets", "seat"] (sp_reach K T.c_Table) := by
  refine T.F_reach.ok sc_reach (fun vs H Q E h => ?_) (fun cdv A outer s H vs Q E hr h => ?_)
  · obtain ⟨k, a, tg, p, ss, gs, ps, rfl, _⟩ := h; rfl
  · obtain ⟨k, a, tg, p, ss, gs, ps, rfl, hT, hG, hgs, z, hp, hS, q⟩ := h
    refine ⟨_, (C8.pss_cut (ps_set (i := 3) sc_reach.nd rfl (Or.inl rfl) (pe_call (ok_sizes_of T) (hr.mono (by decide)) (by rfl) T.g_sizes_of T.F_sizes_of.kp T.b_sizes_of .nil pass0 (pa_cons (pv 0) pa_nil)))
      (C8.pss_cut (ps_expr (pe_call (ok_require_targets T) (hr.mono (by decide)) (by rfl) T.g_require_targets T.F_require_targets.kp T.b_require_targets .nil pass0 (pa_cons (pv 3) (pa_cons (pv 1) pa_nil))))
      (C8.pss_cut (ps_expr (pe_call (ok_require_seat T) (hr.mono (by decide)) (by rfl) T.g_require_seat T.F_require_seat.kp T.b_require_seat .nil pass0 (pa_cons (pv 3) (pa_cons (pv 2) pa_nil))))
      (C8.pss_cut (ps_set (i := 4) sc_reach.nd rfl (Or.inl rfl) (pe_call (ok_shift_basis T) (hr.mono (by decide)) (by rfl) T.g_shift_basis T.F_shift_basis.kp T.b_shift_basis .nil pass0 (pa_cons (pv 3) (pa_cons (pv 1) pa_nil))))
      (C8.pss_cut (ps_set (i := 5) sc_reach.nd rfl (Or.inl rfl) (pe_call (ok_difference T) (hr.mono (by decide)) (by rfl) T.g_difference T.F_difference.kp T.b_difference .nil pass0 (pa_cons (pv 2) (pa_cons (pe_ix (IxR.or ix_lH ix_tH) (pv 1) pe_int (fun _ _ => rfl)) pa_nil))))
      (C8.pss_cut (ps_set (i := 6) sc_reach.nd rfl (Or.inl rfl) (pe_call (ok_pivot_product T) (hr.mono (by decide)) (by rfl) T.g_pivot_product T.F_pivot_product.kp T.b_pivot_product .nil pass0 (pa_cons (pv 4) pa_nil)))
      (C8.pss_cut (ps_for PassesOwn.never rfl (pi_range1H (by rfl) T.n_range (pa_cons (pe_callB len_H (by rfl) T.n_len PySem.boot_len (pa_cons (pv 3) pa_nil)) pa_nil)) (pg_name (i := 7) sc_reach.nd rfl (Or.inl rfl))
        (C8.pss_cut (ps_set (i := 8) sc_reach.nd rfl (Or.inl rfl) (pe_call (ok_inverse_column T) (hr.mono (by decide)) (by rfl) T.g_inverse_column T.F_inverse_column.kp T.b_inverse_column .nil pass0 (pa_cons (pv 4) (pa_cons (pv 6) (pa_cons (pv 7) pa_nil)))))
        (pss_one (ps_if (pt_cmpR op_ne (pe_op op_mod (pe_call (ok_weighted_sum T) (hr.mono (by decide)) (by rfl) T.g_weighted_sum T.F_weighted_sum.kp T.b_weighted_sum .nil pass0 (pa_cons (pv 8) (pa_cons (pv 5) pa_nil))) (pv 6)) pe_int (nomark _)) (pss_one (ps_ret (pe_tup (pa_cons pe_str (pa_cons (pe_call (ok_short_witness T) (hr.mono (by decide)) (by rfl) T.g_short_witness T.F_short_witness.kp T.b_short_witness .nil pass0 (pa_cons (pv 6) (pa_cons (pv 8) (pa_cons (pe_ix (IxR.or ix_lH ix_tH) (pv 1) pe_int (fun _ _ => rfl)) pa_nil)))) pa_nil))))) pss_nil))))
      (pss_one (ps_ret (pe_tup (pa_cons pe_str pa_nil))))))))))), ?_⟩
    have hlen : ∀ g ∈ gs, g.length = ss.length := fun g hg => (hgs.ok g hg).len
    have hR := shift_rows z hgs.ne hlen
    have hTr := shift_tri z hgs.ne hlen
    have el : (oddsI ss).length = ss.length := by unfold oddsI; simp
    have hn := hR.len
    have h4 := z.hi
    have hmp : 0 < cosetI ss gs := pivP_pos hTr _ (by omega)
    have hmb : (cosetI ss gs).natAbs < 2 ^ 4001 := by
      have := pivP_bnd hR ss.length
      exact wide_mono this (by omega)
    have h0m := headD_mem hgs.ne
    have h0l := hlen _ h0m
    refine ⟨MR1 a tg p ss H, ?_, ?_⟩
    · walk_at "rd"
      exact ⟨a, ss, rfl, hT, fun t ht => ⟨t, rfl, Same.refl _, ht⟩⟩
    rintro σ1 H1 ⟨t, rfl, s1, ht⟩
    refine ⟨MR2 a tg p t H1, ?_, ?_⟩
    · walk_at "rd"
      exact ⟨false, k, t, tg, ss, gs, rfl, ht, hG.same s1, hgs.ne, hgs.nd, hgs.few, hgs.ok, z, fun H2 s2 => ⟨rfl, s2⟩⟩
    rintro σ2 H2 ⟨rfl, s2⟩
    refine ⟨MR2 a tg p t H2, ?_, ?_⟩
    · walk_at "rd"
      exact ⟨false, t, ss, .ref p, rfl, s2 _ _ ht, hS.b z (s2 _ _ (s1 _ _ hp)), fun H3 s3 => ⟨rfl, s3⟩⟩
    rintro σ3 H3 ⟨rfl, s3⟩
    have s03 := (s1.trans s2).trans s3
    refine ⟨MR3 a tg p t (shiftB ss gs) H3, ?_, ?_⟩
    · walk_at "rd"
      exact ⟨false, k, t, tg, ss, gs, rfl, s3 _ _ (s2 _ _ ht), hG.same s03, hgs.ne, hlen, z, fun H4 D s4 hL => ⟨D, rfl, s4, hL⟩⟩
    rintro σ4 H4 ⟨b, rfl, s4, hb⟩
    have s04 := s03.trans s4
    obtain ⟨as, htg, hA⟩ := id hG
    obtain ⟨a0, ha0⟩ : ∃ a0, as[0]? = some a0 := by
      have : 0 < as.length := by rw [hA.1]; exact List.length_pos_iff.mpr hgs.ne
      exact ⟨as[0], List.getElem?_eq_getElem this⟩
    have hg0 : gs[0]? = some (gs.headD []) := by
      cases e : gs with
      | nil => exact absurd e hgs.ne
      | cons g gs => rfl
    have hv0 : atI (as.map V.ref) (0 : Int) = some (V.ref a0) := atI_nat (j := 0) (by rw [List.getElem?_map, ha0]; rfl)
    have ha0H := hA.2 0 a0 _ ha0 hg0
    refine ⟨MR4 a tg p t b (sub2 ps (gs.headD [])) H4, ?_, ?_⟩
    · walk_at "rd"
      refine ix_seq (i := 0) (htg.same s04) hv0 ?_
      exact ⟨false, false, p, a0, ps, gs.headD [], rfl, s04 _ _ hp, s04 _ _ ha0H, by rw [hS.len, h0l], by rw [hS.len]; omega, fun H5 D s5 hD hL => ⟨D, rfl, s5, hL⟩⟩
    rintro σ5 H5 ⟨d, rfl, s5, hd⟩
    have s05 := s04.trans s5
    have hb5 := hb.same s5
    refine ⟨MR5 a tg p t b d (cosetI ss gs) H5, ?_, ?_⟩
    · walk_at "rd"
      refine ⟨b, oddsI ss, shiftB ss gs, rfl, hb5, hR, by omega, fun H6 s6 => ?_⟩
      rw [hn, el]
      exact ⟨rfl, s6⟩
    rintro σ6 H6 ⟨rfl, s6⟩
    have s06 := s05.trans s6
    have hvl : (sub2 ps (gs.headD [])).length = ss.length := by unfold sub2; rw [List.length_zipWith, hS.len, h0l, Nat.min_self]
    refine ⟨MR6 (reachI ss gs ps = none) H6, ?_, ?_⟩
    · walk_at "rd"
      have ht6 := (((s2.trans s3).trans s4).trans (s5.trans s6)) _ _ ht
      have hd6 := s6 _ _ hd
      have hb6 := hb5.same s6
      have g0b : BW 1000 (gs.headD []) := fun x hx => by
        obtain ⟨j, hj, rfl⟩ := List.getElem_of_mem hx
        have hj2 : j < ss.length := by rw [← h0l]; exact hj
        obtain ⟨h1, h2⟩ := (hgs.ok _ h0m).ok j _ _ (List.getElem?_eq_getElem hj) (List.getElem?_eq_getElem hj2)
        have := z.bits _ (List.getElem_mem hj2)
        omega
      have hvb : BW 1001 (sub2 ps (gs.headD [])) := fun x hx => by
        obtain ⟨j, hj, rfl⟩ := List.getElem_of_mem hx
        have hj2 : j < ss.length := by rw [← hvl]; exact hj
        have hj3 : j < ps.length := by rw [hS.len]; exact hj2
        have hj4 : j < (gs.headD []).length := by rw [h0l]; exact hj2
        obtain ⟨h1, h2⟩ := (hgs.ok _ h0m).ok j _ _ (List.getElem?_eq_getElem hj4) (List.getElem?_eq_getElem hj2)
        obtain ⟨h5, h6⟩ := hS.ok j _ _ (List.getElem?_eq_getElem hj3) (List.getElem?_eq_getElem hj2)
        have hb := z.bits _ (List.getElem_mem hj2)
        have e : (sub2 ps (gs.headD []))[j] = ps[j] - (gs.headD [])[j] := by
          have := zw_get (g := fun x y => x - y) (List.getElem?_eq_getElem hj3) (List.getElem?_eq_getElem hj4)
          rw [show List.zipWith (fun x y => x - y) ps (gs.headD []) = sub2 ps (gs.headD []) from rfl, List.getElem?_eq_getElem hj] at this
          exact Option.some.inj this
        rw [e]
        have hpow : (2 : Nat) ^ 1001 = 2 ^ 1000 * 2 := Nat.pow_succ 2 1000
        omega
      have hl64 : (((ss.map V.int).length : Nat) : Int).toNat = ss.length := by simp
      refine .inr ⟨_, ht6, by omega, by rw [List.length_map]; omega, fun J W => ?_⟩
      rw [hl64] at W
      refine forr W (fun i σ H' => ∃ v7 v8, σ = [some (V.ref a), some (V.ref tg), some (V.ref p), some (V.ref t), some (V.ref b), some (V.ref d), some (V.int (cosetI ss gs)), v7, v8] ∧ Same H6 H' ∧ ∀ c, c < i → colF (shiftB ss gs) ss.length (sub2 ps (gs.headD [])) c = false) ⟨none, none, rfl, Same.refl _, fun c hc => absurd hc (Nat.not_lt_zero c)⟩ (fun _ _ _ _ _ => trivial) ?_ ?_
      · rintro i x σ8 H8o H8 hi ⟨v7, v8, rfl, s8, hno⟩ ⟨rfl, rfl⟩
        refine ⟨MR7 a tg p t b d (cosetI ss gs) i (invC (shiftB ss gs) (cosetI ss gs) i i) H8, ?_, ?_⟩
        · walk_at "rd"
          exact ⟨b, cosetI ss gs, i, oddsI ss, shiftB ss gs, rfl, hb6.same s8, hR, hTr, by omega, by omega, hmb, fun H9 D s9 hD hd9 => ⟨D, rfl, s9, hd9⟩⟩
        rintro σ9 H9 ⟨u, rfl, s9, hu⟩
        have s69 := s8.trans s9
        have s09 := s06.trans s69
        have hwl := invC_len (shiftB ss gs) (cosetI ss gs) i i
        have hwb := invC_bnd hR (by omega) hmb i i
        walk_at "rd"
        refine ⟨true, true, u, d, invC (shiftB ss gs) (cosetI ss gs) i i, sub2 ps (gs.headD []), rfl, hu, s69 _ _ hd6, by rw [hwl, hvl]; omega, by omega, fun j x y hx hy => ?_, fun H10 s10 => ?_⟩
        · exact .inr (.inr (wide_mul (a := 4001 + 1003 * i) (b := 1001) (hwb x (List.mem_of_getElem? hx)) (hvb y (List.mem_of_getElem? hy)) (by omega) (by decide) (by omega)))
        refine ⟨_, rfl, hmp, ?_⟩
        by_cases hz : dot (invC (shiftB ss gs) (cosetI ss gs) i i) (sub2 ps (gs.headD [])) % cosetI ss gs = 0
        · rw [if_neg (fun h => h hz)]
          refine ⟨s69.trans s10, fun c hc => ?_⟩
          by_cases e : c < i
          · exact hno c e
          · obtain rfl : c = i := by omega
            unfold colF
            rw [show pivP (shiftB ss gs) ss.length = cosetI ss gs from rfl, decide_eq_true hz]
            rfl
        · rw [if_pos hz]
          have s010 := s09.trans s10
          refine ix_seq (i := 0) (htg.same s010) hv0 ?_
          refine ⟨false, cosetI ss gs, u, a0, invC (shiftB ss gs) (cosetI ss gs) i i, gs.headD [], rfl, hmp, hmb, s10 _ _ hu, s010 _ _ ha0H, by rw [hwl, h0l]; omega, by omega, fun x hx => wide_mono (hwb x hx) (by omega), fun x hx => wide_mono (g0b x hx) (by decide), fun H11 D r s11 hD hr => fun p2 hp2 => ?_⟩
          have s12 := Same.new hp2 (o := .tup [V.str "unreachable", V.ref D])
          have hi2 : colF (shiftB ss gs) ss.length (sub2 ps (gs.headD [])) i = true := by
            unfold colF
            rw [show pivP (shiftB ss gs) ss.length = cosetI ss gs from rfl, decide_eq_false hz]
            rfl
          exact q _ p2 ((s010.trans s11).trans s12) (.inr ⟨i, D, r, find_range _ hi hi2 hno, upd_same, s12 _ _ hD, s12 _ _ hr⟩)
      · rintro σ8 H8 ⟨v7, v8, rfl, s8, hno⟩
        exact ⟨rfl, s8, find_range_none _ hno⟩
    rintro σ7 H7 ⟨_, s7, hno⟩
    walk_at "rd"
    intro D hD
    exact q _ D (s06.trans (s7.trans (Same.new hD))) (.inl ⟨hno, upd_same⟩)
end

/-! ### odd parts -/
theorem cd_of {n : Nat} {z : Int} (h : n ∣ z.natAbs) : ((n : Nat) : Int) ∣ z := Int.natAbs_dvd_natAbs.mp (by rw [Int.natAbs_natCast]; exact h)
theorem cd_to {n : Nat} {z : Int} (h : ((n : Nat) : Int) ∣ z) : n ∣ z.natAbs := by
  have := Int.natAbs_dvd_natAbs.mpr h
  rwa [Int.natAbs_natCast] at this
theorem oddI_pos {s : Int} (h : 1 ≤ s) : 0 < oddI s := by
  have := odd_pos (n := s.toNat) (by omega)
  unfold oddI
  omega
theorem oddI_split {s : Int} (h : 1 ≤ s) : ∃ k : Nat, s = oddI s * 2 ^ k ∧ oddI s % 2 = 1 := by
  obtain ⟨k, e1, e2⟩ := odd_split s.toNat (by omega)
  refine ⟨k, ?_, by unfold oddI; omega⟩
  have : (s.toNat : Int) = ((oddN s.toNat * 2 ^ k : Nat) : Int) := by rw [← e1]
  rw [Int.natCast_mul, Int.natCast_pow] at this
  unfold oddI
  rw [Int.toNat_of_nonneg (by omega)] at this
  exact this
theorem odd_dvd {e x : Int} {k : Nat} (he : e % 2 = 1) (h : e ∣ x * 2 ^ k) : e ∣ x := by
  have hc : Nat.Coprime e.natAbs (2 ^ k) := by
    refine Nat.Coprime.pow_right k ?_
    have h2 : e.natAbs % 2 = 1 := by omega
    show Nat.gcd e.natAbs 2 = 1
    rw [Nat.gcd_comm, Nat.gcd_rec, h2]
    rfl
  have h1 := Int.natAbs_dvd_natAbs.mpr h
  rw [Int.natAbs_mul, Int.natAbs_pow] at h1
  exact Int.natAbs_dvd_natAbs.mp (hc.dvd_of_dvd_mul_right h1)
theorem dvd_odd {e o : Int} (h : e ∣ o) (ho : o % 2 = 1) : e % 2 = 1 := by
  obtain ⟨c, rfl⟩ := h
  have h12 : e % 2 = 0 ∨ e % 2 = 1 := by omega
  rcases h12 with h | h
  · exfalso
    rw [Int.mul_emod, h] at ho
    simp at ho
  · exact h
theorem oddI_dvd {s : Int} (h : 1 ≤ s) : oddI s ∣ s := by
  obtain ⟨k, e, _⟩ := oddI_split h
  exact ⟨2 ^ k, e⟩

/-! ### one target -/
theorem getD_getD {α : Type} (l : List α) (i : Nat) (d : α) : l.getD i d = (l[i]?).getD d := by rw [List.getD_eq_getElem?_getD]
/-- rows are left where the rest is zero -/
theorem withV_zero {odds rest : List Int} (h : ∀ j, rest.getD j 0 = 0) : ∀ (rows : List (List Int)) (i : Nat), withV odds i rows rest = rows
  | [], _ => rfl
  | row :: rows, i => by
    have e : euc odds i (row.getD i 0).toNat row rest = (row, rest) := euc_zero (h i) _
    show (euc odds i (row.getD i 0).toNat row rest).1 :: withV odds (i + 1) rows (euc odds i (row.getD i 0).toNat row rest).2 = _
    rw [e, withV_zero h rows (i + 1)]
theorem self_zero (t odds : List Int) (j : Nat) : (mod2 (sub2 t t) odds).getD j 0 = 0 := by
  rw [getD_getD]
  unfold mod2 sub2
  rw [List.getElem?_zipWith, List.getElem?_zipWith]
  cases h1 : t[j]? with
  | none => rfl
  | some x =>
    cases h2 : odds[j]? with
    | none => rfl
    | some o => simp
theorem shift_single (ss t : List Int) : shiftB ss [t] = diagI (oddsI ss) := by
  show withV (oddsI ss) 0 (diagI (oddsI ss)) (mod2 (sub2 t t) (oddsI ss)) = _
  exact withV_zero (self_zero t _) _ _
theorem diag_row {es : List Int} {i : Nat} (h : i < es.length) : (diagI es).getD i [] = rowI es i := by
  unfold diagI
  rw [getD_getD, List.getElem?_map, List.getElem?_range h]
  rfl
theorem row_get {es : List Int} {i j : Nat} (h : i < es.length) : (rowI es i).getD j 0 = if j = i then es.getD i 0 else 0 := by
  unfold rowI
  rw [getD_getD]
  by_cases e : j = i
  · subst e
    rw [List.getElem?_set_self (by simpa using h), if_pos rfl]
    rfl
  · rw [List.getElem?_set_ne (fun x => e x.symm), if_neg e, List.getElem?_replicate]
    split <;> rfl
theorem piv_diag {es : List Int} {i : Nat} (h : i < es.length) : pivA (diagI es) i = es.getD i 0 := by
  unfold pivA
  rw [diag_row h, row_get h, if_pos rfl]
theorem pivP_diag {es : List Int} : ∀ k : Nat, k ≤ es.length → pivP (diagI es) k = prodI (es.take k)
  | 0, _ => rfl
  | k + 1, h => by
    have hk : k < es.length := by omega
    rw [pivP_succ, pivP_diag k (by omega), prodI_take (List.getElem?_eq_getElem hk), piv_diag hk, getD_getD, List.getElem?_eq_getElem hk]
    rfl
theorem coset_single {ss t : List Int} : cosetI ss [t] = prodI (oddsI ss) := by
  unfold cosetI
  have el : (oddsI ss).length = ss.length := by unfold oddsI; simp
  rw [shift_single, ← el, pivP_diag _ (Nat.le_refl _), List.take_length]
theorem dot_unit : ∀ (r w : List Int) (i : Nat), (∀ j, j ≠ i → r.getD j 0 = 0 ∨ w.getD j 0 = 0) → r.length = w.length → dot r w = r.getD i 0 * w.getD i 0
  | [], [], i, _, _ => by simp [dot]
  | x :: r, y :: w, i, h, hl => by
    show x * y + dot r w = _
    cases i with
    | zero =>
      have e : dot r w = 0 := by
        have := dot_unit r w r.length (fun j _ => h (j + 1) (by omega)) (by simpa using hl)
        rw [this, getD_getD, List.getElem?_eq_none (Nat.le_refl _)]
        simp
      rw [e]
      simp
    | succ i =>
      have e0 : x * y = 0 := by
        rcases h 0 (by omega) with h0 | h0
        · rw [show x = 0 from h0, Int.zero_mul]
        · rw [show y = 0 from h0, Int.mul_zero]
      rw [e0, Int.zero_add]
      exact dot_unit r w i (fun j hj => h (j + 1) (by omega)) (by simpa using hl)
/-- the weights of one column -/
def unitV (n c : Nat) (x : Int) : List Int := (List.replicate n (0 : Int)).set c x
theorem unit_get {n c j : Nat} {x : Int} (h : c < n) : (unitV n c x).getD j 0 = if j = c then x else 0 := by
  unfold unitV
  rw [getD_getD]
  by_cases e : j = c
  · subst e
    rw [List.getElem?_set_self (by simpa using h), if_pos rfl]
    rfl
  · rw [List.getElem?_set_ne (fun x => e x.symm), if_neg e, List.getElem?_replicate]
    split <;> rfl
theorem unit_len {n c : Nat} {x : Int} : (unitV n c x).length = n := by unfold unitV; simp
theorem diag_len {es : List Int} : (diagI es).length = es.length := by unfold diagI; simp
theorem inv_diag {es : List Int} {m : Int} {c : Nat} (h : c < es.length) : ∀ k, k ≤ c → invC (diagI es) m c k = unitV es.length c (m / es.getD c 0)
  | 0, _ => by
    show ((List.replicate (diagI es).length (0 : Int)).set c (m / pivA (diagI es) c)) = _
    rw [diag_len, piv_diag h]
    rfl
  | k + 1, hk => by
    rw [invC_succ, inv_diag h k (by omega)]
    have hi : c - 1 - k < es.length := by omega
    have hne : c - 1 - k ≠ c := by omega
    unfold wstep
    rw [diag_row hi, dot_unit _ _ (c - 1 - k) (fun j hj => .inl (by rw [row_get hi, if_neg hj])) (by unfold rowI; rw [unit_len]; simp), unit_get h, if_neg hne, Int.mul_zero, Int.neg_zero, Int.zero_ediv]
    unfold unitV
    rw [List.set_comm _ _ hne.symm]
    congr 1
    refine List.ext_getElem (by simp) fun i h1 h2 => ?_
    rw [List.getElem_set]
    split
    · simp
    · rfl
theorem dot_unitV {n c : Nat} {x : Int} {v : List Int} (h : c < n) (hv : v.length = n) : dot (unitV n c x) v = x * v.getD c 0 := by
  rw [dot_unit _ _ c (fun j hj => .inl (by rw [unit_get h, if_neg hj])) (by rw [unit_len, hv]), unit_get h, if_pos rfl]
theorem prodI_dvd : ∀ {es : List Int} {c : Nat}, c < es.length → es.getD c 0 ∣ prodI es := by
  intro es c h
  have key : ∀ k, c < k → k ≤ es.length → es.getD c 0 ∣ prodI (es.take k) := by
    intro k
    induction k with
    | zero => intro h; omega
    | succ k ih =>
      intro h1 h2
      rw [prodI_take (List.getElem?_eq_getElem (by omega : k < es.length))]
      by_cases e : c = k
      · subst e
        rw [getD_getD, List.getElem?_eq_getElem (by omega : c < es.length)]
        exact Int.dvd_mul_left _ _
      · exact Int.dvd_trans (ih (by omega) (by omega)) (Int.dvd_mul_right _ _)
  have := key es.length h (Nat.le_refl _)
  rwa [List.take_length] at this
theorem prodI_pos : ∀ {es : List Int}, (∀ e ∈ es, 0 < e) → 0 < prodI es := by
  intro es h
  have key : ∀ k, k ≤ es.length → 0 < prodI (es.take k) := by
    intro k
    induction k with
    | zero => intro _; show (0 : Int) < 1; decide
    | succ k ih =>
      intro h2
      rw [prodI_take (List.getElem?_eq_getElem (by omega : k < es.length))]
      exact Int.mul_pos (ih (by omega)) (h _ (List.getElem_mem _))
  have := key es.length (Nat.le_refl _)
  rwa [List.take_length] at this
/-- a column tells whether the odd part divides the entry -/
theorem col_diag {es v : List Int} {c : Nat} (hp : ∀ e ∈ es, 0 < e) (h : c < es.length) (hv : v.length = es.length) : colF (diagI es) es.length v c = !decide (es.getD c 0 ∣ v.getD c 0) := by
  unfold colF
  have hP := prodI_pos hp
  have hd := prodI_dvd h
  rw [pivP_diag _ (Nat.le_refl _), List.take_length, inv_diag h c (Nat.le_refl _), dot_unitV h hv]
  generalize prodI es = m at *
  have ho : 0 < es.getD c 0 := by
    rw [getD_getD, List.getElem?_eq_getElem h]
    exact hp _ (List.getElem_mem h)
  generalize es.getD c 0 = o at *
  generalize v.getD c 0 = x
  obtain ⟨q, rfl⟩ := hd
  have hq : 0 < q := by
    rcases Int.lt_trichotomy q 0 with h | h | h
    · have := Int.mul_neg_of_pos_of_neg ho h; omega
    · subst h; simp at hP
    · exact h
  rw [Int.mul_ediv_cancel_left _ (by omega)]
  congr 1
  apply decide_eq_decide.mpr
  rw [← Int.dvd_iff_emod_eq_zero, Int.mul_comm o q]
  exact Int.mul_dvd_mul_iff_left (by omega)
theorem reach_single {ss t p : List Int} (hp : ∀ s ∈ oddsI ss, 0 < s) (ht : t.length = ss.length) (hl : p.length = ss.length) : (reachI ss [t] p).isNone = true ↔ ∀ c, c < ss.length → oddI (ss.getD c 0) ∣ p.getD c 0 - t.getD c 0 := by
  have el : (oddsI ss).length = ss.length := by unfold oddsI; simp
  have hv : (sub2 p t).length = (oddsI ss).length := by unfold sub2; rw [List.length_zipWith, ht, hl, Nat.min_self, el]
  unfold reachI
  rw [shift_single, show ([t] : List (List Int)).headD [] = t from rfl, ← el, Option.isNone_iff_eq_none, List.find?_eq_none]
  have hc : ∀ c, c < (oddsI ss).length → (¬ colF (diagI (oddsI ss)) (oddsI ss).length (sub2 p t) c = true ↔ oddI (ss.getD c 0) ∣ p.getD c 0 - t.getD c 0) := fun c h => by
    rw [col_diag hp h hv]
    have e1 : (oddsI ss).getD c 0 = oddI (ss.getD c 0) := by
      have h2 : c < ss.length := by rw [← el]; exact h
      unfold oddsI
      rw [getD_getD, getD_getD, List.getElem?_map, List.getElem?_eq_getElem h2]
      rfl
    have e2 : (sub2 p t).getD c 0 = p.getD c 0 - t.getD c 0 := getD_zw (by omega) (by omega)
    rw [e1, e2]
    simp
  exact ⟨fun h c hlt => (hc c hlt).mp (h c (List.mem_range.mpr hlt)), fun h c hm => (hc c (List.mem_range.mp hm)).mpr (h c (List.mem_range.mp hm))⟩

/-! ### orders that are powers of 2 -/
def Pw (n : Nat) : Prop := ∃ k, n ∣ 2 ^ k
theorem pw_lcm {a b : Nat} : Pw (Nat.lcm a b) ↔ Pw a ∧ Pw b := by
  constructor
  · rintro ⟨k, h⟩
    exact ⟨⟨k, Nat.dvd_trans (Nat.dvd_lcm_left a b) h⟩, ⟨k, Nat.dvd_trans (Nat.dvd_lcm_right a b) h⟩⟩
  · rintro ⟨⟨i, h1⟩, ⟨j, h2⟩⟩
    exact ⟨i + j, Nat.lcm_dvd (Nat.dvd_trans h1 (Nat.pow_dvd_pow 2 (by omega))) (Nat.dvd_trans h2 (Nat.pow_dvd_pow 2 (by omega)))⟩
theorem pw_fold : ∀ (zs : List (Int × Int)) (c : Nat), Pw (zs.foldl ordS c) ↔ Pw c ∧ ∀ z ∈ zs, Pw (z.2 / ((Nat.gcd z.1.natAbs z.2.natAbs : Nat) : Int)).natAbs
  | [], c => by simp
  | z :: zs, c => by
    rw [List.foldl_cons, pw_fold zs, ordS, pw_lcm, List.forall_mem_cons, and_assoc]
theorem pw_odd {n : Nat} (h : 0 < n) : oddN n = 1 ↔ Pw n := by
  obtain ⟨k, e1, e2⟩ := odd_split n h
  constructor
  · intro e
    refine ⟨k, ?_⟩
    rw [e, Nat.one_mul] at e1
    rw [← e1]
    exact Nat.dvd_refl _
  · rintro ⟨j, hj⟩
    have h1 : oddN n ∣ 2 ^ j := Nat.dvd_trans ⟨2 ^ k, e1⟩ hj
    have hc : Nat.Coprime (oddN n) (2 ^ j) := by
      refine Nat.Coprime.pow_right j ?_
      show Nat.gcd (oddN n) 2 = 1
      rw [Nat.gcd_comm, Nat.gcd_rec, e2]
      rfl
    exact Nat.dvd_one.mp (hc.dvd_of_dvd_mul_right (by rw [Nat.one_mul]; exact h1))
theorem pw_one {g s : Int} (hs : 1 ≤ s) : Pw (s / ((Nat.gcd g.natAbs s.natAbs : Nat) : Int)).natAbs ↔ oddI s ∣ g := by
  obtain ⟨k, e1, e2⟩ := oddI_split hs
  have hg : 0 < Nat.gcd g.natAbs s.natAbs := Nat.gcd_pos_of_pos_right _ (by omega)
  have d1 : ((Nat.gcd g.natAbs s.natAbs : Nat) : Int) ∣ g := cd_of (Nat.gcd_dvd_left _ _)
  have d2 : ((Nat.gcd g.natAbs s.natAbs : Nat) : Int) ∣ s := cd_of (Nat.gcd_dvd_right _ _)
  have d3 : oddI s ∣ s := ⟨2 ^ k, e1⟩
  have d4 : oddI s ∣ g → oddI s ∣ ((Nat.gcd g.natAbs s.natAbs : Nat) : Int) := fun h => by
    have a1 := Int.natAbs_dvd_natAbs.mpr h
    have a2 := Int.natAbs_dvd_natAbs.mpr d3
    refine Int.natAbs_dvd_natAbs.mp ?_
    rw [Int.natAbs_natCast]
    exact Nat.dvd_gcd a1 a2
  generalize ((Nat.gcd g.natAbs s.natAbs : Nat) : Int) = d at *
  obtain ⟨q, hq⟩ := d2
  by_cases hd : d = 0
  · subst hd; simp at hq; omega
  have eq : s / d = q := by rw [hq, Int.mul_ediv_cancel_left _ hd]
  rw [eq]
  constructor
  · rintro ⟨j, hj⟩
    refine Int.dvd_trans (odd_dvd (k := j) e2 ?_) d1
    refine Int.dvd_trans d3 ?_
    rw [hq]
    refine Int.mul_dvd_mul (Int.dvd_refl _) ?_
    refine Int.natAbs_dvd_natAbs.mp ?_
    rw [Int.natAbs_pow]
    exact hj
  · intro h
    refine ⟨k, ?_⟩
    obtain ⟨u, hu⟩ := d4 h
    have h1 : d * q ∣ d * 2 ^ k := by
      rw [← hq, hu]
      rw [Int.mul_right_comm, ← e1]
      exact Int.dvd_mul_right _ _
    have h2 := Int.dvd_of_mul_dvd_mul_left hd h1
    have h3 := Int.natAbs_dvd_natAbs.mpr h2
    rw [Int.natAbs_pow] at h3
    exact h3
theorem ordI_pos {ps ss : List Int} (hs : ∀ s ∈ ss, 1 ≤ s) : 0 < ordI ps ss := by
  have key : ∀ (zs : List (Int × Int)) (c : Nat), 0 < c → (∀ z ∈ zs, 1 ≤ z.2) → 0 < zs.foldl ordS c := by
    intro zs
    induction zs with
    | nil => intro c h _; exact h
    | cons z zs ih =>
      intro c h hz
      rw [List.foldl_cons]
      refine ih _ ?_ fun y hy => hz y (List.mem_cons_of_mem _ hy)
      refine Nat.lcm_pos h ?_
      have h1 := hz z (List.mem_cons_self ..)
      have hg : 0 < Nat.gcd z.1.natAbs z.2.natAbs := Nat.gcd_pos_of_pos_right _ (by omega)
      have d2 : ((Nat.gcd z.1.natAbs z.2.natAbs : Nat) : Int) ∣ z.2 := cd_of (Nat.gcd_dvd_right _ _)
      have := Int.ediv_pos_of_pos_of_dvd (by omega : 0 < z.2) (by omega) d2
      omega
  refine key _ 1 (by decide) fun z hz => hs _ (List.of_mem_zip hz).2
theorem ord_pow {ps ss : List Int} (hl : ps.length = ss.length) (hs : ∀ s ∈ ss, 1 ≤ s) : oddI (ordI ps ss : Nat) = 1 ↔ ∀ c, c < ss.length → oddI (ss.getD c 0) ∣ ps.getD c 0 := by
  have h1 : oddI (ordI ps ss : Nat) = 1 ↔ oddN (ordI ps ss) = 1 := by
    unfold oddI
    rw [Int.toNat_natCast]
    omega
  rw [h1, pw_odd (ordI_pos hs)]
  unfold ordI
  rw [pw_fold]
  constructor
  · rintro ⟨_, h⟩ c hc
    have e1 := List.getElem?_eq_getElem hc
    have e2 := List.getElem?_eq_getElem (by omega : c < ps.length)
    have hm : (ps[c], ss[c]) ∈ ps.zip ss := by
      refine List.mem_of_getElem? (i := c) ?_
      rw [List.getElem?_zip_eq_some]
      exact ⟨e2, e1⟩
    rw [getD_getD, getD_getD, e1, e2]
    exact (pw_one (hs _ (List.getElem_mem hc))).mp (h _ hm)
  · intro h
    refine ⟨⟨0, by decide⟩, fun z hz => ?_⟩
    obtain ⟨i, hi, e⟩ := List.getElem_of_mem hz
    have hi2 : i < ss.length := by rw [List.length_zip] at hi; omega
    have h2 := h i hi2
    rw [List.getElem_zip] at e
    rw [← e]
    refine (pw_one (hs _ (List.getElem_mem hi2))).mpr ?_
    rw [getD_getD, getD_getD, List.getElem?_eq_getElem hi2, List.getElem?_eq_getElem (by omega : i < ps.length)] at h2
    exact h2
/-- a step by g from t -/
theorem step_dvd {t g ss : List Int} (h1 : t.length = ss.length) (h2 : g.length = ss.length) (hs : ∀ s ∈ ss, 1 ≤ s) (c : Nat) (hc : c < ss.length) : oddI (ss.getD c 0) ∣ (mv fw t g ss).getD c 0 - t.getD c 0 ↔ oddI (ss.getD c 0) ∣ g.getD c 0 := by
  have e1 := List.getElem?_eq_getElem hc
  have e2 := List.getElem?_eq_getElem (by omega : c < t.length)
  have e3 := List.getElem?_eq_getElem (by omega : c < g.length)
  rw [getD_getD, getD_getD, getD_getD, getD_getD, mv_get e2 e3 e1, e1, e2, e3]
  simp only [Option.getD_some]
  have hd := oddI_dvd (hs _ (List.getElem_mem hc))
  generalize ss[c] = s at *
  generalize t[c] = x
  generalize g[c] = y
  generalize oddI s = o at *
  have e4 : fw x y % s = x + y - s * ((x + y) / s) := by
    have := Int.emod_add_mul_ediv (x + y) s
    unfold fw
    omega
  rw [e4]
  have d5 : o ∣ s * ((x + y) / s) := Int.dvd_trans hd (Int.dvd_mul_right _ _)
  constructor
  · intro h
    have := Int.dvd_add h d5
    rw [show x + y - s * ((x + y) / s) - x + s * ((x + y) / s) = y by omega] at this
    exact this
  · intro h
    have := Int.dvd_sub h d5
    rw [show y - s * ((x + y) / s) = x + y - s * ((x + y) / s) - x by omega] at this
    exact this
/-- reachable from one target: the order of the difference is a power of 2 -/
theorem reach_order {ss t g : List Int} (hs : ∀ s ∈ ss, 1 ≤ s) (hp : ∀ s ∈ oddsI ss, 0 < s) (ht : t.length = ss.length) (hg : g.length = ss.length) : (reachI ss [t] (mv fw t g ss)).isNone = decide (oddI (ordI g ss : Nat) = 1) := by
  have h1 := reach_single (p := mv fw t g ss) hp ht (by rw [mv_len (by omega) hg, ht])
  have h2 := ord_pow hg hs
  have h3 : (∀ c, c < ss.length → oddI (ss.getD c 0) ∣ (mv fw t g ss).getD c 0 - t.getD c 0) ↔ ∀ c, c < ss.length → oddI (ss.getD c 0) ∣ g.getD c 0 :=
    ⟨fun h c hc => (step_dvd ht hg hs c hc).mp (h c hc), fun h c hc => (step_dvd ht hg hs c hc).mpr (h c hc)⟩
  rw [h3, ← h2] at h1
  by_cases e : oddI (ordI g ss : Nat) = 1
  · rw [decide_eq_true e]; exact h1.mpr e
  · rw [decide_eq_false e]
    cases h : (reachI ss [t] (mv fw t g ss)).isNone with
    | false => rfl
    | true => exact absurd (h1.mp h) e

/-! ### groups of vectors -/
def fv (l : List Int) : Nat → Int := fun i => l.getD i 0
def eU (j : Nat) (x : Int) : Nat → Int := fun i => if i = j then x else 0
structure Grp (S : (Nat → Int) → Prop) : Prop where
  zero : S fun _ => 0
  add : ∀ (u v : Nat → Int) (c : Int), S u → S v → S fun i => u i + c * v i
theorem fv_out {l : List Int} {i : Nat} (h : l.length ≤ i) : fv l i = 0 := by
  unfold fv
  rw [getD_getD, List.getElem?_eq_none h]
  rfl
theorem fv_zw {g : Int → Int → Int} {xs ys : List Int} (hl : xs.length = ys.length) (h0 : g 0 0 = 0) : fv (List.zipWith g xs ys) = fun i => g (fv xs i) (fv ys i) := by
  funext i
  by_cases h : i < xs.length
  · exact getD_zw h (by omega)
  · rw [fv_out (by rw [List.length_zipWith]; omega), fv_out (by omega), fv_out (by omega), h0]
theorem grp_red_one {S : (Nat → Int) → Prop} (G : Grp S) {n k : Nat} {o q v w : Nat → Int} (ho : ∀ j, k < j → j < n → S (eU j (o j))) (hw : ∀ i, i < n → w i = v i - q i * o i) (h1 : ∀ i, i ≤ k → w i = v i) (h2 : ∀ i, n ≤ i → w i = v i) (h : S v) : S w := by
  have key : ∀ t, t ≤ n → S fun i => if i < t then w i else v i := by
    intro t
    induction t with
    | zero => intro _; simpa using h
    | succ t ih =>
      intro ht
      have h3 := ih (by omega)
      by_cases hk : t ≤ k
      · have e : (fun i => if i < t + 1 then w i else v i) = fun i => if i < t then w i else v i := by
          funext i
          by_cases e : i = t
          · subst e; rw [if_pos (by omega), if_neg (by omega), h1 i hk]
          · by_cases e2 : i < t
            · rw [if_pos (by omega), if_pos e2]
            · rw [if_neg (by omega), if_neg e2]
        rw [e]; exact h3
      · have h4 := G.add _ _ (-q t) h3 (ho t (by omega) (by omega))
        have e : (fun i => if i < t + 1 then w i else v i) = fun i => (if i < t then w i else v i) + -q t * eU t (o t) i := by
          funext i
          unfold eU
          by_cases e : i = t
          · subst e
            rw [if_pos (by omega), if_neg (by omega), if_pos rfl, hw i (by omega), Int.neg_mul]
            omega
          · rw [if_neg e, Int.mul_zero, Int.add_zero]
            by_cases e2 : i < t
            · rw [if_pos (by omega), if_pos e2]
            · rw [if_neg (by omega), if_neg e2]
        rw [e]; exact h4
  have h5 := key n (Nat.le_refl _)
  have e : (fun i => if i < n then w i else v i) = w := by
    funext i
    by_cases e : i < n
    · rw [if_pos e]
    · rw [if_neg e, h2 i (by omega)]
  rw [e] at h5
  exact h5
theorem grp_red {S : (Nat → Int) → Prop} (G : Grp S) {n k : Nat} {o q v w : Nat → Int} (ho : ∀ j, k < j → j < n → S (eU j (o j))) (hw : ∀ i, i < n → w i = v i - q i * o i) (h1 : ∀ i, i ≤ k → w i = v i) (h2 : ∀ i, n ≤ i → w i = v i) : S v ↔ S w :=
  ⟨grp_red_one G ho hw h1 h2, grp_red_one G (q := fun i => -q i) ho (fun i hi => by rw [hw i hi, Int.neg_mul]; omega) (fun i hi => (h1 i hi).symm) fun i hi => (h2 i hi).symm⟩
/-- reduced by all odd parts -/
theorem grp_mod {S : (Nat → Int) → Prop} (G : Grp S) {odds v : List Int} (hl : v.length = odds.length) (ho : ∀ j, j < odds.length → S (eU j (odds.getD j 0))) : S (fv v) ↔ S (fv (mod2 v odds)) := by
  have e : fv (mod2 v odds) = fun i => fv v i % fv odds i := fv_zw hl (by simp)
  rw [e]
  by_cases h0 : 0 < odds.length
  · have key : ∀ (w w2 : Nat → Int) (q : Nat → Int), (∀ i, i < odds.length → w2 i = w i - q i * fv odds i) → (∀ i, odds.length ≤ i → w2 i = w i) → S w → S w2 := by
      intro w w2 q hq h2 hw
      -- the first entry by hand
      have h3 := G.add _ _ (-q 0) hw (ho 0 h0)
      refine (grp_red G (n := odds.length) (k := 0) (o := fv odds) (q := fun i => if i = 0 then 0 else q i) (v := fun i => w i + -q 0 * eU 0 (odds.getD 0 0) i) (w := w2) (fun j _ h => ho j h) (fun i hi => ?_) (fun i hi => ?_) fun i hi => ?_).mp h3
      · by_cases e : i = 0
        · subst e
          rw [if_pos rfl, hq 0 hi]
          unfold eU fv
          rw [if_pos rfl, Int.neg_mul]
          omega
        · rw [if_neg e, hq i hi]
          unfold eU
          rw [if_neg e]
          omega
      · have : i = 0 := by omega
        subst this
        rw [hq 0 h0]
        unfold eU fv
        rw [if_pos rfl, Int.neg_mul]
        omega
      · rw [h2 i hi]
        unfold eU
        rw [if_neg (by omega)]
        omega
    have hmod : ∀ i, fv v i % fv odds i = fv v i - (fv v i / fv odds i) * fv odds i := fun i => by
      have := Int.emod_add_mul_ediv (fv v i) (fv odds i)
      rw [Int.mul_comm (fv v i / fv odds i)]
      omega
    have hout : ∀ i, odds.length ≤ i → fv v i % fv odds i = fv v i := fun i hi => by
      rw [fv_out (l := v) (by omega)]
      simp
    refine ⟨key _ _ (fun i => fv v i / fv odds i) (fun i _ => hmod i) hout, key _ _ (fun i => -(fv v i / fv odds i)) (fun i _ => ?_) fun i hi => (hout i hi).symm⟩
    rw [hmod i, Int.neg_mul]
    omega
  · have e2 : v = [] := List.eq_nil_of_length_eq_zero (by omega)
    subst e2
    have : (fun i => fv [] i % fv odds i) = fv [] := by funext i; simp [fv]
    rw [this]
theorem low_fv {piv rest : List Int} {i : Nat} (hl : piv.length = rest.length) : fv (lowV piv rest i) = fun j => fv rest j - (rest.getD i 0 / piv.getD i 0) * fv piv j := by
  unfold lowV
  exact fv_zw (g := fun p u => p - (rest.getD i 0 / piv.getD i 0) * u) hl.symm (by simp)
/-- one step leaves the group that is spanned -/
theorem nxt_grp {odds : List Int} {S : (Nat → Int) → Prop} (G : Grp S) {i : Nat} (hi : i < odds.length) (hod : ∀ j, i < j → j < odds.length → S (eU j (odds.getD j 0))) {piv rest : List Int} (h1 : RedV odds piv) (h2 : RedV odds rest) (z2 : Zer i rest) (z1 : Pv i piv) :
    ((S (fv piv) ∧ S (fv rest)) ↔ (S (fv piv) ∧ S (fv (nxtV odds piv rest i)))) := by
  obtain ⟨e1, e2, e3⟩ := euc_next hi h1 h2 z1.2
  have l1 := low_len (i := i) h1.len h2.len
  have hlow := low_fv (piv := piv) (rest := rest) (i := i) (by rw [h1.len, h2.len])
  have hm : fv (nxtV odds piv rest i) = fun j => fv (lowV piv rest i) j % fv odds j := fv_zw l1 (by simp)
  have hred : S (fv (lowV piv rest i)) ↔ S (fv (nxtV odds piv rest i)) := by
    refine grp_red G (n := odds.length) (k := i) (o := fv odds) (q := fun j => fv (lowV piv rest i) j / fv odds j) hod (fun j hj => ?_) (fun j hj => ?_) fun j hj => ?_
    · rw [hm]
      have := Int.emod_add_mul_ediv (fv (lowV piv rest i) j) (fv odds j)
      show fv (lowV piv rest i) j % fv odds j = _
      rw [Int.mul_comm (fv (lowV piv rest i) j / fv odds j)]
      omega
    · by_cases e : j < i
      · rw [hm]
        show fv (lowV piv rest i) j % fv odds j = _
        have : fv (lowV piv rest i) j = 0 := by
          rw [hlow]
          show fv rest j - _ * fv piv j = 0
          rw [show fv piv j = 0 from z1.1 j e, show fv rest j = 0 from z2 j e]
          simp
        rw [this]; simp
      · have : j = i := by omega
        subst this
        have e4 : fv (lowV piv rest j) j = rest.getD j 0 % piv.getD j 0 := by
          rw [hlow]
          show rest.getD j 0 - rest.getD j 0 / piv.getD j 0 * piv.getD j 0 = _
          have := Int.emod_add_mul_ediv (rest.getD j 0) (piv.getD j 0)
          rw [Int.mul_comm (rest.getD j 0 / piv.getD j 0)]
          omega
        rw [e4]
        exact e1
    · rw [hm]
      show fv (lowV piv rest i) j % fv odds j = _
      rw [fv_out (l := lowV piv rest i) (by omega)]
      simp
  rw [← hred, hlow]
  constructor
  · rintro ⟨a, b⟩
    refine ⟨a, ?_⟩
    have := G.add _ _ (-(rest.getD i 0 / piv.getD i 0)) b a
    have e : (fun j => fv rest j - (rest.getD i 0 / piv.getD i 0) * fv piv j) = fun j => fv rest j + -(rest.getD i 0 / piv.getD i 0) * fv piv j := by
      funext j; rw [Int.neg_mul]; omega
    rw [e]; exact this
  · rintro ⟨a, b⟩
    refine ⟨a, ?_⟩
    have := G.add _ _ (rest.getD i 0 / piv.getD i 0) b a
    have e : fv rest = fun j => fv rest j - (rest.getD i 0 / piv.getD i 0) * fv piv j + (rest.getD i 0 / piv.getD i 0) * fv piv j := by
      funext j; omega
    rw [e]; exact this
/-- Euclid's steps leave the group that is spanned -/
theorem euc_grp {odds : List Int} (hp : ∀ o ∈ odds, 0 < o) {S : (Nat → Int) → Prop} (G : Grp S) {i : Nat} (hi : i < odds.length) (hod : ∀ j, i < j → j < odds.length → S (eU j (odds.getD j 0))) : ∀ (f : Nat) (piv rest : List Int), RedV odds piv → RedV odds rest → Zer i rest → Pv i piv →
    ((S (fv piv) ∧ S (fv rest)) ↔ (S (fv (euc odds i f piv rest).1) ∧ S (fv (euc odds i f piv rest).2)))
  | 0, piv, rest, _, _, _, _ => Iff.rfl
  | f + 1, piv, rest, h1, h2, z2, z1 => by
    show _ ↔ (S (fv (if rest.getD i 0 = 0 then (piv, rest) else if (nxtV odds piv rest i).getD i 0 = 0 then (piv, nxtV odds piv rest i) else euc odds i f (nxtV odds piv rest i) piv).1) ∧ S (fv (if rest.getD i 0 = 0 then (piv, rest) else if (nxtV odds piv rest i).getD i 0 = 0 then (piv, nxtV odds piv rest i) else euc odds i f (nxtV odds piv rest i) piv).2))
    by_cases h0 : rest.getD i 0 = 0
    · rw [if_pos h0]
    · rw [if_neg h0]
      obtain ⟨e1, e2, e3⟩ := euc_next hi h1 h2 z1.2
      have hg := nxt_grp G hi hod h1 h2 z2 z1
      by_cases h9 : (nxtV odds piv rest i).getD i 0 = 0
      · rw [if_pos h9]; exact hg
      · rw [if_neg h9, ← euc_grp hp G hi hod f _ _ (nxt_red hp h1.len h2.len) h1 z1.1 ⟨low_zer (Nat.le_of_lt hi) h1.len h2.len z1.1 z2, by omega⟩, hg]
        exact And.comm
/-- the odd parts behind k are spanned by the rows behind k -/
def Hod (odds : List Int) (i : Nat) (rows : List (List Int)) : Prop := ∀ S : (Nat → Int) → Prop, Grp S → ∀ k, (∀ r ∈ rows.drop k, S (fv r)) → ∀ j, i + k ≤ j → j < odds.length → S (eU j (odds.getD j 0))
theorem withV_grp {odds : List Int} (hp : ∀ o ∈ odds, 0 < o) : ∀ (rows : List (List Int)) (i : Nat) (rest : List Int), RedV odds rest → Zer i rest → i + rows.length = odds.length → (∀ r ∈ rows, RedV odds r) → (∀ (j : Nat) r, rows[j]? = some r → Pv (i + j) r) → Hod odds i rows →
    (∀ S : (Nat → Int) → Prop, Grp S → (((∀ r ∈ rows, S (fv r)) ∧ S (fv rest)) ↔ ∀ r ∈ withV odds i rows rest, S (fv r))) ∧ Hod odds i (withV odds i rows rest)
  | [], i, rest, hr, z, hl, hrow, hpv, hod => by
    refine ⟨fun S G => ⟨fun _ r h => by simp [withV] at h, fun _ => ⟨by simp, ?_⟩⟩, fun S G k _ j h1 h2 => ?_⟩
    · have e : fv rest = fun _ => 0 := by
        funext j
        by_cases h : j < rest.length
        · exact z j (by have := hr.len; simp at hl; omega)
        · exact fv_out (by omega)
      rw [e]; exact G.zero
    · simp at hl; omega
  | row :: rows, i, rest, hr, z, hl, hrow, hpv, hod => by
    have h1 := hrow row (List.mem_cons_self ..)
    have hi : i < odds.length := by rw [← hl, List.length_cons]; omega
    obtain ⟨e1, e3⟩ := euc_ok hp i (row.getD i 0).toNat row rest h1 hr
    have hpr := hpv 0 row rfl
    rw [Nat.add_zero] at hpr
    obtain ⟨t1, t2⟩ := euc_tri hp hi (row.getD i 0).toNat row rest h1 hr z hpr (Nat.le_refl _)
    have hod' : Hod odds (i + 1) rows := fun S G k hS j hj1 hj2 => hod S G (k + 1) (by rw [List.drop_succ_cons]; exact hS) j (by omega) hj2
    obtain ⟨ih1, ih2⟩ := withV_grp hp rows (i + 1) (euc odds i (row.getD i 0).toNat row rest).2 e3 t2 (by rw [← hl, List.length_cons]; omega) (fun r hr => hrow r (List.mem_cons_of_mem _ hr)) (fun j r hj => by
      have := hpv (j + 1) r hj
      rw [show i + 1 + j = i + (j + 1) by omega]
      exact this) hod'
    have main : ∀ S : (Nat → Int) → Prop, Grp S → (((∀ r ∈ row :: rows, S (fv r)) ∧ S (fv rest)) ↔ ∀ r ∈ withV odds i (row :: rows) rest, S (fv r)) := by
      intro S G
      show _ ↔ ∀ r ∈ (euc odds i (row.getD i 0).toNat row rest).1 :: withV odds (i + 1) rows (euc odds i (row.getD i 0).toNat row rest).2, S (fv r)
      rw [List.forall_mem_cons, List.forall_mem_cons, ← ih1 S G]
      constructor
      · rintro ⟨⟨a, b⟩, c⟩
        obtain ⟨d1, d2⟩ := (euc_grp hp G hi (fun j hj1 hj2 => hod' S G 0 (by simpa using b) j (by omega) hj2) (row.getD i 0).toNat row rest h1 hr z hpr).mp ⟨a, c⟩
        exact ⟨d1, b, d2⟩
      · rintro ⟨a, b, c⟩
        obtain ⟨d1, d2⟩ := (euc_grp hp G hi (fun j hj1 hj2 => hod' S G 0 (by simpa using b) j (by omega) hj2) (row.getD i 0).toNat row rest h1 hr z hpr).mpr ⟨a, c⟩
        exact ⟨⟨d1, b⟩, d2⟩
    refine ⟨main, fun S G k hS j hj1 hj2 => ?_⟩
    cases k with
    | zero => exact hod S G 0 (by simpa using ((main S G).mpr (by simpa using hS)).1) j hj1 hj2
    | succ k => exact ih2 S G k hS j (by omega) hj2
theorem row_fv {odds : List Int} {j : Nat} (h : j < odds.length) : fv (rowI odds j) = eU j (odds.getD j 0) := by
  funext i
  exact row_get h
theorem diag_at {odds : List Int} {j : Nat} (h : j < odds.length) : (diagI odds)[j]? = some (rowI odds j) := by
  unfold diagI
  rw [List.getElem?_map, List.getElem?_range h]
  rfl
theorem hod_diag (odds : List Int) : Hod odds 0 (diagI odds) := fun S G k hS j h1 h2 => by
  rw [← row_fv h2]
  refine hS _ (List.mem_of_getElem? (i := j - k) ?_)
  rw [List.getElem?_drop, show k + (j - k) = j by omega]
  exact diag_at h2
theorem step_all {odds g0 : List Int} (hp : ∀ o ∈ odds, 0 < o) (hb : Bnd odds) (h0 : g0.length = odds.length) : ∀ (gs : List (List Int)) (rows : List (List Int)), (∀ g ∈ gs, g.length = odds.length) → Rows odds rows → Tri rows → Hod odds 0 rows →
    (∀ S : (Nat → Int) → Prop, Grp S → ((∀ r ∈ gs.foldl (stepB odds g0) rows, S (fv r)) ↔ (∀ r ∈ rows, S (fv r)) ∧ ∀ g ∈ gs, S (fv (sub2 g g0)))) ∧ Hod odds 0 (gs.foldl (stepB odds g0) rows)
  | [], rows, _, _, _, hod => ⟨fun S G => by simp, hod⟩
  | g :: gs, rows, hg, hR, hT, hod => by
    have hgl := hg g (List.mem_cons_self ..)
    have hv : (sub2 g g0).length = odds.length := by
      unfold sub2
      rw [List.length_zipWith, hgl, h0, Nat.min_self]
    have hred := mod2_red hv hp
    have hz : Zer 0 (mod2 (sub2 g g0) odds) := fun j hj => absurd hj (Nat.not_lt_zero j)
    have htri : ∀ (j : Nat) r, rows[j]? = some r → Pv (0 + j) r := fun j r hj => by rw [Nat.zero_add]; exact hT j r hj
    obtain ⟨a1, a2⟩ := withV_grp hp rows 0 _ hred hz (by rw [hR.len]; omega) hR.red htri hod
    have hT2 : Tri (stepB odds g0 rows g) := fun j r hj => by
      have := withV_tri hp rows 0 _ hred hz (by rw [hR.len]; omega) hR.red htri j r hj
      rw [Nat.zero_add] at this
      exact this
    obtain ⟨b1, b2⟩ := step_all hp hb h0 gs (stepB odds g0 rows g) (fun x hx => hg x (List.mem_cons_of_mem _ hx)) (hR.withV hp hb hv) hT2 a2
    refine ⟨fun S G => ?_, b2⟩
    rw [List.foldl_cons, b1 S G, List.forall_mem_cons]
    have e : (∀ r ∈ stepB odds g0 rows g, S (fv r)) ↔ (∀ r ∈ rows, S (fv r)) ∧ S (fv (mod2 (sub2 g g0) odds)) := (a1 S G).symm
    rw [e]
    constructor
    · rintro ⟨⟨c1, c2⟩, c3⟩
      exact ⟨c1, (grp_mod G hv fun j hj => hod S G 0 (by simpa using c1) j (by omega) hj).mpr c2, c3⟩
    · rintro ⟨c1, c2, c3⟩
      exact ⟨⟨c1, (grp_mod G hv fun j hj => hod S G 0 (by simpa using c1) j (by omega) hj).mp c2⟩, c3⟩
/-- what the free shifts are spanned by -/
def Gen (ss : List Int) (gs : List (List Int)) (S : (Nat → Int) → Prop) : Prop := (∀ j, j < ss.length → S (eU j (oddI (ss.getD j 0)))) ∧ ∀ g ∈ gs, S (fv (sub2 g (gs.headD [])))
theorem odds_get {ss : List Int} {j : Nat} (h : j < ss.length) : (oddsI ss).getD j 0 = oddI (ss.getD j 0) := by
  unfold oddsI
  rw [getD_getD, getD_getD, List.getElem?_map, List.getElem?_eq_getElem h]
  rfl
theorem odds_len {ss : List Int} : (oddsI ss).length = ss.length := by unfold oddsI; simp
theorem shift_grp {ss : List Int} {gs : List (List Int)} (z : Sz ss) (hg : gs ≠ []) (hl : ∀ g ∈ gs, g.length = ss.length) : (∀ S : (Nat → Int) → Prop, Grp S → ((∀ r ∈ shiftB ss gs, S (fv r)) ↔ Gen ss gs S)) ∧ Hod (oddsI ss) 0 (shiftB ss gs) := by
  have el : (oddsI ss).length = ss.length := odds_len
  obtain ⟨a, b⟩ := step_all (g0 := gs.headD []) (odds_pos z.pos) (odds_bnd z.bits) (by rw [el]; exact hl _ (headD_mem hg)) gs (diagI (oddsI ss)) (fun g h => by rw [el]; exact hl g h) (Rows.diag (odds_pos z.pos) (odds_bnd z.bits)) (diag_tri (odds_pos z.pos)) (hod_diag _)
  refine ⟨fun S G => ?_, b⟩
  unfold shiftB Gen
  rw [a S G]
  refine and_congr ⟨fun h j hj => ?_, fun h r hr => ?_⟩ Iff.rfl
  · have := hod_diag (oddsI ss) S G 0 (by simpa using h) j (by omega) (by omega)
    rw [odds_get hj] at this
    exact this
  · obtain ⟨j, hj, e⟩ := List.getElem_of_mem hr
    rw [diag_len] at hj
    have e2 := diag_at hj
    rw [List.getElem?_eq_getElem (by rw [diag_len]; exact hj), e] at e2
    rw [Option.some.inj e2, row_fv hj, odds_get (by omega)]
    exact h j (by omega)
/-! ### the weights of the columns -/
def dotF (w v : Nat → Int) : Nat → Int
  | 0 => 0
  | n + 1 => dotF w v n + w n * v n
theorem dotF_succ (w v : Nat → Int) : ∀ n, dotF w v (n + 1) = w 0 * v 0 + dotF (fun i => w (i + 1)) (fun i => v (i + 1)) n
  | 0 => by simp [dotF]
  | n + 1 => by
    show dotF w v (n + 1) + w (n + 1) * v (n + 1) = w 0 * v 0 + (dotF (fun i => w (i + 1)) (fun i => v (i + 1)) n + w (n + 1) * v (n + 1))
    rw [dotF_succ w v n]
    omega
theorem dot_F : ∀ (xs ys : List Int), xs.length = ys.length → dot xs ys = dotF (fv xs) (fv ys) xs.length
  | [], [], _ => rfl
  | x :: xs, y :: ys, h => by
    rw [List.length_cons, dotF_succ]
    show x * y + dot xs ys = _
    rw [dot_F xs ys (by simpa using h)]
    rfl
theorem dotF_add (w u v : Nat → Int) (c : Int) : ∀ n, dotF w (fun i => u i + c * v i) n = dotF w u n + c * dotF w v n
  | 0 => by simp [dotF]
  | n + 1 => by
    show dotF w (fun i => u i + c * v i) n + w n * (u n + c * v n) = (dotF w u n + w n * u n) + c * (dotF w v n + w n * v n)
    rw [dotF_add w u v c n, Int.mul_add, Int.mul_add, Int.mul_left_comm]
    omega
theorem dotF_zero (w : Nat → Int) : ∀ n, dotF w (fun _ => 0) n = 0
  | 0 => rfl
  | n + 1 => by
    show dotF w (fun _ => 0) n + w n * 0 = 0
    rw [dotF_zero w n]
    simp
theorem dotF_unit (w : Nat → Int) (j : Nat) (x : Int) : ∀ n, dotF w (eU j x) n = if j < n then w j * x else 0
  | 0 => by simp [dotF]
  | n + 1 => by
    show dotF w (eU j x) n + w n * eU j x n = _
    rw [dotF_unit w j x n]
    unfold eU
    by_cases e : n = j
    · subst e; rw [if_neg (by omega), if_pos rfl, if_pos (by omega)]; omega
    · rw [if_neg e, Int.mul_zero, Int.add_zero]
      by_cases e2 : j < n
      · rw [if_pos e2, if_pos (by omega)]
      · rw [if_neg e2, if_neg (by omega)]
theorem grp_dot (w : Nat → Int) (m : Int) (n : Nat) : Grp fun v => m ∣ dotF w v n :=
  ⟨by rw [dotF_zero]; exact Int.dvd_zero _, fun u v c h1 h2 => by rw [dotF_add]; exact Int.dvd_add h1 (Int.dvd_mul_of_dvd_right h2)⟩
theorem dot_set : ∀ (r w : List Int) (i : Nat) (x : Int), i < w.length → r.length = w.length → dot r (w.set i x) = dot r w + r.getD i 0 * (x - w.getD i 0)
  | [], [], i, x, h, _ => by simp at h
  | a :: r, b :: w, i, x, h, hl => by
    cases i with
    | zero =>
      show a * x + dot r w = a * b + dot r w + a * (x - b)
      rw [Int.mul_sub]
      omega
    | succ i =>
      show a * b + dot r (w.set i x) = a * b + dot r w + r.getD i 0 * (x - w.getD i 0)
      rw [dot_set r w i x (by simpa using h) (by simpa using hl)]
      omega
theorem set_get (w : List Int) (i j : Nat) (x : Int) (h : i < w.length) : (w.set i x).getD j 0 = if j = i then x else w.getD j 0 := by
  rw [getD_getD, getD_getD]
  by_cases e : j = i
  · subst e
    rw [List.getElem?_set_self h, if_pos rfl]
    rfl
  · rw [List.getElem?_set_ne (fun x => e x.symm), if_neg e]
theorem pivP_dvd (rows : List (List Int)) (i j : Nat) (h : i ≤ j) : pivP rows i ∣ pivP rows j := by
  induction j with
  | zero =>
    have : i = 0 := by omega
    subst this
    exact Int.dvd_refl _
  | succ j ih =>
    by_cases e : i = j + 1
    · subst e; exact Int.dvd_refl _
    · rw [pivP_succ]
      exact Int.dvd_trans (ih (by omega)) (Int.dvd_mul_right _ _)
theorem dvd_dot {p : Int} : ∀ (r w : List Int), (∀ j, p ∣ w.getD j 0) → p ∣ dot r w
  | [], _, _ => by simp [dot]
  | _ :: _, [], _ => by simp [dot]
  | a :: r, b :: w, h => by
    show p ∣ a * b + dot r w
    exact Int.dvd_add (Int.dvd_mul_of_dvd_right (h 0)) (dvd_dot r w fun j => h (j + 1))
structure InvW (rows : List (List Int)) (m : Int) (c t : Nat) (w : List Int) : Prop where
  len : w.length = rows.length
  out : ∀ j, c < j ∨ j < c - t → w.getD j 0 = 0
  top : w.getD c 0 = m / pivA rows c
  dvd : ∀ j, pivP rows (c - t) ∣ w.getD j 0
  nul : ∀ i, c - t ≤ i → i < c → dot (rows.getD i []) w = 0
theorem invW {odds : List Int} {rows : List (List Int)} (hR : Rows odds rows) (hT : Tri rows) {c : Nat} (hc : c < rows.length) : ∀ t, t ≤ c → InvW rows (pivP rows rows.length) c t (invC rows (pivP rows rows.length) c t)
  | 0, _ => by
    have hpp : ∀ i, i < rows.length → 0 < pivA rows i := fun i hi => by
      have h1 := (hT i _ (List.getElem?_eq_getElem hi)).2
      unfold pivA
      rw [(row_at hR hi).1]
      exact h1
    have hw : ∀ j, ((List.replicate rows.length (0 : Int)).set c (pivP rows rows.length / pivA rows c)).getD j 0 = if j = c then pivP rows rows.length / pivA rows c else 0 := fun j => by
      rw [set_get _ _ _ _ (by simpa using hc)]
      by_cases e : j = c
      · rw [if_pos e, if_pos e]
      · rw [if_neg e, if_neg e, getD_getD, List.getElem?_replicate]
        split <;> rfl
    refine ⟨by show ((List.replicate rows.length (0 : Int)).set c _).length = _; simp, fun j hj => ?_, ?_, fun j => ?_, fun i h1 h2 => by omega⟩
    · show ((List.replicate rows.length (0 : Int)).set c (pivP rows rows.length / pivA rows c)).getD j 0 = 0
      rw [hw, if_neg (by omega)]
    · show ((List.replicate rows.length (0 : Int)).set c (pivP rows rows.length / pivA rows c)).getD c 0 = _
      rw [hw, if_pos rfl]
    · show pivP rows (c - 0) ∣ ((List.replicate rows.length (0 : Int)).set c (pivP rows rows.length / pivA rows c)).getD j 0
      rw [hw, Nat.sub_zero]
      split
      · obtain ⟨q, hq⟩ := pivP_dvd rows (c + 1) rows.length (by omega)
        rw [hq, pivP_succ]
        have := hpp c hc
        rw [Int.mul_right_comm, Int.mul_ediv_cancel _ (by omega)]
        exact Int.dvd_mul_right _ _
      · exact Int.dvd_zero _
  | t + 1, ht => by
    have ih := invW hR hT hc t (by omega)
    rw [invC_succ]
    generalize invC rows (pivP rows rows.length) c t = w at ih
    have hi : c - 1 - t < rows.length := by omega
    have ei : c - t = (c - 1 - t) + 1 := by omega
    have ei2 : c - (t + 1) = c - 1 - t := by omega
    have hpos : 0 < pivA rows (c - 1 - t) := by
      have h1 := (hT _ _ (List.getElem?_eq_getElem hi)).2
      unfold pivA
      rw [(row_at hR hi).1]
      exact h1
    have hd := dvd_dot (rows.getD (c - 1 - t) []) w ih.dvd
    rw [ei, pivP_succ] at hd
    obtain ⟨q, hq⟩ := hd
    have hx : -(dot (rows.getD (c - 1 - t) []) w) / pivA rows (c - 1 - t) = -(pivP rows (c - 1 - t) * q) := by
      rw [hq, Int.mul_right_comm, ← Int.neg_mul, Int.mul_ediv_cancel _ (by omega)]
    have hw0 := ih.out (c - 1 - t) (.inr (by omega))
    have hlw : c - 1 - t < w.length := by rw [ih.len]; exact hi
    have hg : ∀ j, (wstep rows (c - 1 - t) w).getD j 0 = if j = c - 1 - t then -(pivP rows (c - 1 - t) * q) else w.getD j 0 := fun j => by
      unfold wstep
      rw [hx, set_get _ _ _ _ hlw]
    refine ⟨by unfold wstep; rw [List.length_set]; exact ih.len, fun j hj => ?_, ?_, fun j => ?_, fun i h1 h2 => ?_⟩
    · rw [hg, if_neg (by omega)]
      exact ih.out j (by omega)
    · rw [hg, if_neg (by omega)]
      exact ih.top
    · rw [hg, ei2]
      split
      · exact Int.dvd_neg.mpr (Int.dvd_mul_right _ _)
      · refine Int.dvd_trans ?_ (ih.dvd j)
        exact pivP_dvd rows _ _ (by omega)
    · rw [ei2] at h1
      have hil : i < rows.length := by omega
      have hrl : (rows.getD i []).length = w.length := by rw [(row_at hR hil).1, (row_at hR hil).2.1, ih.len, hR.len]
      unfold wstep
      rw [dot_set _ _ _ _ hlw hrl, hx, hw0, Int.sub_zero]
      by_cases e : i = c - 1 - t
      · subst e
        rw [hq]
        show pivP rows (c - 1 - t) * pivA rows (c - 1 - t) * q + pivA rows (c - 1 - t) * -(pivP rows (c - 1 - t) * q) = 0
        rw [Int.mul_neg, ← Int.mul_assoc, Int.mul_comm (pivA rows (c - 1 - t))]
        omega
      · rw [ih.nul i (by omega) h2]
        have hz := (hT i _ (List.getElem?_eq_getElem hil)).1 (c - 1 - t) (by omega)
        rw [(row_at hR hil).1, hz]
        simp
/-- the rows under the weights of a column -/
theorem dual {odds : List Int} {rows : List (List Int)} (hR : Rows odds rows) (hT : Tri rows) {c k : Nat} (hc : c < rows.length) (hk : k < rows.length) : dot (rows.getD k []) (invC rows (pivP rows rows.length) c c) = if k = c then pivP rows rows.length else 0 := by
  have h := invW hR hT hc c (Nat.le_refl _)
  generalize invC rows (pivP rows rows.length) c c = w at h
  have hrl : (rows.getD k []).length = w.length := by rw [(row_at hR hk).1, (row_at hR hk).2.1, h.len, hR.len]
  have hz := (hT k _ (List.getElem?_eq_getElem hk)).1
  rw [← (row_at hR hk).1] at hz
  by_cases hkc : k < c
  · rw [if_neg (by omega)]
    exact h.nul k (by omega) hkc
  · rw [dot_unit _ _ k (fun j hj => ?_) hrl]
    · by_cases e : k = c
      · subst e
        rw [if_pos rfl, h.top]
        show pivA rows k * (pivP rows rows.length / pivA rows k) = _
        refine Int.mul_ediv_cancel' ?_
        refine Int.dvd_trans ?_ (pivP_dvd rows (k + 1) rows.length (by omega))
        rw [pivP_succ]
        exact Int.dvd_mul_left _ _
      · rw [if_neg e, h.out k (.inl (by omega))]
        simp
    · by_cases e : j < k
      · exact .inl (hz j e)
      · exact .inr (h.out j (.inl (by omega)))

/-- v is told from the lattice by no column: it is in it -/
theorem col_mem {odds : List Int} {rows : List (List Int)} (hR : Rows odds rows) (hT : Tri rows) {v : List Int} (hv : v.length = rows.length) (h : ∀ c, c < rows.length → pivP rows rows.length ∣ dot (invC rows (pivP rows rows.length) c c) v) {S : (Nat → Int) → Prop} (G : Grp S) (hS : ∀ r ∈ rows, S (fv r)) : S (fv v) := by
  have hm := pivP_pos hT rows.length (Nat.le_refl _)
  have hwl : ∀ c, (invC rows (pivP rows rows.length) c c).length = rows.length := fun c => invC_len _ _ _ _
  have hdot : ∀ c, dot (invC rows (pivP rows rows.length) c c) v = dotF (fv (invC rows (pivP rows rows.length) c c)) (fv v) rows.length := fun c => by rw [dot_F _ _ (by rw [hwl, hv]), hwl]
  have hrow : ∀ c k, c < rows.length → k < rows.length → dotF (fv (invC rows (pivP rows rows.length) c c)) (fv (rows.getD k [])) rows.length = if k = c then pivP rows rows.length else 0 := fun c k hc hk => by
    have e := dual hR hT hc hk
    have hl : (rows.getD k []).length = rows.length := by rw [(row_at hR hk).1, (row_at hR hk).2.1, hR.len]
    have comm : ∀ (a b : Nat → Int) n, dotF a b n = dotF b a n := fun a b n => by
      induction n with
      | zero => rfl
      | succ n ih => show dotF a b n + a n * b n = dotF b a n + b n * a n; rw [ih, Int.mul_comm]
    rw [dot_F _ _ (by rw [hl, hwl]), hl] at e
    rw [comm]
    exact e
  generalize hW : (fun c => fv (invC rows (pivP rows rows.length) c c)) = W at *
  have hWc : ∀ c, fv (invC rows (pivP rows rows.length) c c) = W c := fun c => by rw [← hW]
  have hout : ∀ c, c < rows.length → ∀ j, c < j → W c j = 0 := fun c hc j hj => by
    rw [← hWc]
    exact (invW hR hT hc c (Nat.le_refl _)).out j (.inl hj)
  have htop : ∀ c, c < rows.length → W c c ≠ 0 := fun c hc => by
    rw [← hWc]
    have e := (invW hR hT hc c (Nat.le_refl _)).top
    rw [show fv (invC rows (pivP rows rows.length) c c) c = _ from e]
    obtain ⟨q, hq⟩ := pivP_dvd rows (c + 1) rows.length (by omega)
    rw [pivP_succ] at hq
    have hp0 : pivA rows c ≠ 0 := fun e => by rw [e] at hq; simp at hq; omega
    rw [hq, Int.mul_right_comm, Int.mul_ediv_cancel _ hp0]
    intro e2
    rw [Int.mul_right_comm, e2, Int.zero_mul] at hq
    omega
  simp only [hWc] at hdot hrow h
  have hq : ∀ c, c < rows.length → ∃ q, dotF (W c) (fv v) rows.length = pivP rows rows.length * q := fun c hc => by
    have := h c hc
    rw [hdot] at this
    exact this
  obtain ⟨a, ha⟩ : ∃ a : Nat → Int, ∀ c, c < rows.length → dotF (W c) (fv v) rows.length = pivP rows rows.length * a c := by
    refine ⟨fun c => dotF (W c) (fv v) rows.length / pivP rows rows.length, fun c hc => ?_⟩
    obtain ⟨q, e⟩ := hq c hc
    show _ = _ * (dotF (W c) (fv v) rows.length / pivP rows rows.length)
    rw [e, Int.mul_ediv_cancel_left _ (by omega)]
  let U : Nat → Nat → Int := fun k => Nat.rec (fv v) (fun k u i => u i + -a k * fv (rows.getD k []) i) k
  have hU0 : U 0 = fv v := rfl
  have hUs : ∀ k, U (k + 1) = fun i => U k i + -a k * fv (rows.getD k []) i := fun _ => rfl
  have hdU : ∀ k, k ≤ rows.length → ∀ c, c < rows.length → dotF (W c) (U k) rows.length = if c < k then 0 else pivP rows rows.length * a c := by
    intro k
    induction k with
    | zero => intro _ c hc; rw [hU0, if_neg (by omega)]; exact ha c hc
    | succ k ih =>
      intro hk c hc
      rw [hUs, dotF_add, ih (by omega) c hc, hrow c k hc (by omega)]
      by_cases e : k = c
      · subst e
        rw [if_pos rfl, if_neg (by omega), if_pos (by omega), Int.neg_mul, Int.mul_comm (a k)]
        omega
      · rw [if_neg e, Int.mul_zero, Int.add_zero]
        by_cases e2 : c < k
        · rw [if_pos e2, if_pos (by omega)]
        · rw [if_neg e2, if_neg (by omega)]
  have hUo : ∀ k, k ≤ rows.length → ∀ j, rows.length ≤ j → U k j = 0 := by
    intro k
    induction k with
    | zero => intro _ j hj; rw [hU0]; exact fv_out (by omega)
    | succ k ih =>
      intro hk j hj
      rw [hUs]
      show U k j + -a k * fv (rows.getD k []) j = 0
      rw [ih (by omega) j hj, fv_out (by rw [(row_at hR (by omega)).1, (row_at hR (by omega)).2.1, ← hR.len]; exact hj)]
      simp
  have hz : ∀ c, c < rows.length → U rows.length c = 0 := by
    intro c
    induction c using Nat.strongRecOn with
    | ind c ih =>
      intro hc
      have e := hdU rows.length (Nat.le_refl _) c hc
      rw [if_pos hc] at e
      have key : ∀ n, dotF (W c) (U rows.length) n = if c < n then W c c * U rows.length c else 0 := by
        intro n
        induction n with
        | zero => rfl
        | succ n ihn =>
          show dotF (W c) (U rows.length) n + W c n * U rows.length n = _
          rw [ihn]
          by_cases e1 : n = c
          · subst e1; rw [if_neg (by omega), if_pos (by omega)]; omega
          · by_cases e2 : c < n
            · rw [if_pos e2, if_pos (by omega), hout c hc n e2]; simp
            · rw [if_neg e2, if_neg (by omega), ih n (by omega) (by omega)]; simp
      rw [key, if_pos hc] at e
      rcases Int.mul_eq_zero.mp e with h1 | h1
      · exact absurd h1 (htop c hc)
      · exact h1
  have hUn : U rows.length = fun _ => 0 := by
    funext j
    by_cases h : j < rows.length
    · exact hz j h
    · exact hUo _ (Nat.le_refl _) j (by omega)
  have back : ∀ k, k ≤ rows.length → S (U (rows.length - k)) := by
    intro k
    induction k with
    | zero => intro _; rw [Nat.sub_zero, hUn]; exact G.zero
    | succ k ih =>
      intro hk
      have e1 : rows.length - k = (rows.length - (k + 1)) + 1 := by omega
      have h1 := ih (by omega)
      rw [e1, hUs] at h1
      generalize hi : rows.length - (k + 1) = i at h1 ⊢
      have hin : i < rows.length := by omega
      have hr := hS rows[i] (List.getElem_mem hin)
      rw [← (row_at hR hin).1] at hr
      have h2 := G.add _ _ (a i) h1 hr
      have e3 : (fun j => U i j + -a i * fv (rows.getD i []) j + a i * fv (rows.getD i []) j) = U i := by
        funext j
        rw [Int.neg_mul]
        omega
      rw [e3] at h2
      exact h2
  have := back rows.length (Nat.le_refl _)
  rw [Nat.sub_self] at this
  exact this
/-- the free shifts: what is in every group that holds what spans them -/
def Free (ss : List Int) (gs : List (List Int)) (v : Nat → Int) : Prop := ∀ S : (Nat → Int) → Prop, Grp S → Gen ss gs S → S v
structure LatW (ss : List Int) (gs : List (List Int)) (m : Int) (w : List Int) : Prop where
  len : w.length = ss.length
  odd : ∀ j, j < ss.length → m ∣ w.getD j 0 * oddI (ss.getD j 0)
  dif : ∀ g ∈ gs, m ∣ dot w (sub2 g (gs.headD []))
theorem lat_w {ss : List Int} {gs : List (List Int)} (z : Sz ss) (hg : gs ≠ []) (hl : ∀ g ∈ gs, g.length = ss.length) {c : Nat} (hc : c < ss.length) : LatW ss gs (cosetI ss gs) (invC (shiftB ss gs) (cosetI ss gs) c c) ∧ Gen ss gs fun v => cosetI ss gs ∣ dotF (fv (invC (shiftB ss gs) (cosetI ss gs) c c)) v ss.length := by
  have hR := shift_rows z hg hl
  have hT := shift_tri z hg hl
  have hn : (shiftB ss gs).length = ss.length := by rw [hR.len, odds_len]
  obtain ⟨hspan, _⟩ := shift_grp z hg hl
  have e : cosetI ss gs = pivP (shiftB ss gs) (shiftB ss gs).length := by unfold cosetI; rw [hn]
  have hwl := invC_len (shiftB ss gs) (cosetI ss gs) c c
  have hgen : Gen ss gs fun v => cosetI ss gs ∣ dotF (fv (invC (shiftB ss gs) (cosetI ss gs) c c)) v ss.length := by
    refine (hspan _ (grp_dot _ _ _)).mp fun r hr => ?_
    obtain ⟨k, hk, er⟩ := List.getElem_of_mem hr
    have hd := dual hR hT (by omega : c < (shiftB ss gs).length) hk
    have comm : ∀ (a b : Nat → Int) n, dotF a b n = dotF b a n := fun a b n => by
      induction n with
      | zero => rfl
      | succ n ih => show dotF a b n + a n * b n = dotF b a n + b n * a n; rw [ih, Int.mul_comm]
    have hrl : r.length = ss.length := by rw [← er, (row_at hR hk).2.1, odds_len]
    rw [(row_at hR hk).1, er, ← e] at hd
    rw [comm, ← hrl, ← dot_F _ _ (by rw [hwl, hrl, hn]), hd]
    split
    · exact Int.dvd_refl _
    · exact Int.dvd_zero _
  refine ⟨⟨by rw [hwl, hn], fun j hj => ?_, fun g hgm => ?_⟩, hgen⟩
  · have h1 : cosetI ss gs ∣ dotF (fv (invC (shiftB ss gs) (cosetI ss gs) c c)) (eU j (oddI (ss.getD j 0))) ss.length := hgen.1 j hj
    rw [dotF_unit, if_pos hj] at h1
    exact h1
  · have := hgen.2 g hgm
    have hsl : (sub2 g (gs.headD [])).length = ss.length := by
      unfold sub2
      rw [List.length_zipWith, hl g hgm, hl _ (headD_mem hg), Nat.min_self]
    rw [dot_F _ _ (by rw [hwl, hsl, hn]), hwl, hn]
    exact this
theorem reach_free {ss : List Int} {gs : List (List Int)} (z : Sz ss) (hg : gs ≠ []) (hl : ∀ g ∈ gs, g.length = ss.length) {p : List Int} (hp : p.length = ss.length) : reachI ss gs p = none ↔ Free ss gs (fv (sub2 p (gs.headD []))) := by
  have hR := shift_rows z hg hl
  have hT := shift_tri z hg hl
  have hn : (shiftB ss gs).length = ss.length := by rw [hR.len, odds_len]
  have e : cosetI ss gs = pivP (shiftB ss gs) (shiftB ss gs).length := by unfold cosetI; rw [hn]
  have hsl : (sub2 p (gs.headD [])).length = ss.length := by
    unfold sub2
    rw [List.length_zipWith, hp, hl _ (headD_mem hg), Nat.min_self]
  obtain ⟨hspan, _⟩ := shift_grp z hg hl
  have hcol : ∀ c, c < ss.length → (¬ colF (shiftB ss gs) ss.length (sub2 p (gs.headD [])) c = true ↔ cosetI ss gs ∣ dot (invC (shiftB ss gs) (cosetI ss gs) c c) (sub2 p (gs.headD []))) := fun c hc => by
    unfold colF
    rw [show pivP (shiftB ss gs) ss.length = cosetI ss gs from rfl, Int.dvd_iff_emod_eq_zero]
    simp
  unfold reachI
  rw [List.find?_eq_none]
  constructor
  · intro h S G hgen
    refine col_mem hR hT (by rw [hsl, hn]) (fun c hc => ?_) G ((hspan S G).mpr hgen)
    rw [← e]
    exact (hcol c (by omega)).mp (h c (List.mem_range.mpr (by omega)))
  · intro h c hm
    have hc := List.mem_range.mp hm
    refine (hcol c hc).mpr ?_
    have hwl := invC_len (shiftB ss gs) (cosetI ss gs) c c
    have := h _ (grp_dot _ _ _) (lat_w z hg hl hc).2
    rw [dot_F _ _ (by rw [hwl, hsl, hn]), hwl, hn]
    exact this

/-! ### pivots -/
theorem dotF_comm (a b : Nat → Int) : ∀ n, dotF a b n = dotF b a n
  | 0 => rfl
  | n + 1 => by
    show dotF a b n + a n * b n = dotF b a n + b n * a n
    rw [dotF_comm a b n, Int.mul_comm]
theorem pivA_eq {odds : List Int} {rows : List (List Int)} (hR : Rows odds rows) {k : Nat} (hk : k < rows.length) : pivA rows k = fv (rows.getD k []) k := rfl
theorem pivA_pos {odds : List Int} {rows : List (List Int)} (hR : Rows odds rows) (hT : Tri rows) {k : Nat} (hk : k < rows.length) : 0 < pivA rows k := by
  have h1 := (hT k _ (List.getElem?_eq_getElem hk)).2
  unfold pivA
  rw [(row_at hR hk).1]
  exact h1
/-- what is spanned and has zeros ahead of k is divided by the pivot there -/
theorem span_piv {odds : List Int} {rows : List (List Int)} (hR : Rows odds rows) (hT : Tri rows) {v : Nat → Int} (h : ∀ S : (Nat → Int) → Prop, Grp S → (∀ r ∈ rows, S (fv r)) → S v) {k : Nat} (hk : k < rows.length) (hz : ∀ j, j < k → v j = 0) : pivA rows k ∣ v k := by
  have hwl := invC_len rows (pivP rows rows.length) k k
  have hW := invW hR hT hk k (Nat.le_refl _)
  have h1 := h _ (grp_dot (fv (invC rows (pivP rows rows.length) k k)) (pivP rows rows.length) rows.length) fun r hr => by
    obtain ⟨i, hi, er⟩ := List.getElem_of_mem hr
    have hd := dual hR hT hk hi
    have hrl : r.length = rows.length := by rw [← er, (row_at hR hi).2.1, hR.len]
    rw [(row_at hR hi).1, er, dot_F _ _ (by rw [hrl, hwl]), hrl] at hd
    rw [dotF_comm, hd]
    split
    · exact Int.dvd_refl _
    · exact Int.dvd_zero _
  have key : ∀ n, dotF (fv (invC rows (pivP rows rows.length) k k)) v n = if k < n then (pivP rows rows.length / pivA rows k) * v k else 0 := by
    intro n
    induction n with
    | zero => rfl
    | succ n ih =>
      show dotF _ v n + fv (invC rows (pivP rows rows.length) k k) n * v n = _
      rw [ih]
      by_cases e1 : n = k
      · subst e1
        rw [if_neg (by omega), if_pos (by omega), show fv (invC rows (pivP rows rows.length) n n) n = _ from hW.top]
        omega
      · by_cases e2 : k < n
        · rw [if_pos e2, if_pos (by omega), show fv (invC rows (pivP rows rows.length) k k) n = 0 from hW.out n (.inl e2)]
          omega
        · rw [if_neg e2, if_neg (by omega), hz n (by omega)]
          omega
  rw [key, if_pos hk] at h1
  have hp := pivA_pos hR hT hk
  have hm := pivP_pos hT rows.length (Nat.le_refl _)
  obtain ⟨q, hq⟩ : pivA rows k ∣ pivP rows rows.length := Int.dvd_trans (by rw [pivP_succ]; exact Int.dvd_mul_left _ _) (pivP_dvd rows (k + 1) rows.length (by omega))
  rw [hq, Int.mul_ediv_cancel_left _ (by omega)] at h1
  rw [hq] at hm
  have hq0 : q ≠ 0 := fun e => by rw [e] at hm; simp at hm
  rw [Int.mul_comm (pivA rows k)] at h1
  exact Int.dvd_of_mul_dvd_mul_left hq0 h1
theorem pivP_dvd_of {rows rows' : List (List Int)} : ∀ n, (∀ k, k < n → pivA rows' k ∣ pivA rows k) → pivP rows' n ∣ pivP rows n
  | 0, _ => Int.dvd_refl _
  | n + 1, h => by
    rw [pivP_succ, pivP_succ]
    exact Int.mul_dvd_mul (pivP_dvd_of n fun k hk => h k (by omega)) (h n (by omega))
theorem piv_all_eq {rows rows' : List (List Int)} : ∀ n, (∀ k, k < n → 0 < pivA rows k ∧ 0 < pivA rows' k ∧ pivA rows' k ∣ pivA rows k) → pivP rows' n = pivP rows n → ∀ k, k < n → pivA rows' k = pivA rows k
  | 0, _, _ => fun k hk => absurd hk (Nat.not_lt_zero k)
  | n + 1, h, e => by
    rw [pivP_succ, pivP_succ] at e
    have hpos : ∀ n', n' ≤ n → 0 < pivP rows n' ∧ 0 < pivP rows' n' := by
      intro n'
      induction n' with
      | zero => intro _; exact ⟨by show (0 : Int) < 1; decide, by show (0 : Int) < 1; decide⟩
      | succ j ih =>
        intro hj
        obtain ⟨a, b⟩ := ih (by omega)
        obtain ⟨c, d, _⟩ := h j (by omega)
        rw [pivP_succ, pivP_succ]
        exact ⟨Int.mul_pos a c, Int.mul_pos b d⟩
    obtain ⟨p1, p2⟩ := hpos n (Nat.le_refl _)
    obtain ⟨c, d, hd⟩ := h n (by omega)
    have hP := Int.le_of_dvd p1 (pivP_dvd_of n fun k hk => (h k (by omega)).2.2)
    have hq := Int.le_of_dvd c hd
    have e1 : pivP rows' n = pivP rows n := by
      by_cases hlt : pivP rows' n < pivP rows n
      · have h1 : pivP rows' n * pivA rows' n ≤ pivP rows' n * pivA rows n := Int.mul_le_mul_of_nonneg_left hq (by omega)
        have h2 : pivP rows' n * pivA rows n < pivP rows n * pivA rows n := Int.mul_lt_mul_of_pos_right hlt c
        omega
      · omega
    have e2 : pivA rows' n = pivA rows n := by
      rw [e1] at e
      exact Int.eq_of_mul_eq_mul_left (by omega) e
    intro k hk
    by_cases ek : k = n
    · subst ek; exact e2
    · exact piv_all_eq n (fun k hk => h k (by omega)) e1 k (by omega)
/-- a vector of one lattice is in a smaller one with the same pivots -/
theorem span_back {odds : List Int} {rows rows' : List (List Int)} (hR : Rows odds rows) (hT : Tri rows) (hR' : Rows odds rows') (hT' : Tri rows') (heq : ∀ k, k < rows.length → pivA rows' k = pivA rows k) {S : (Nat → Int) → Prop} (G : Grp S) (hS : ∀ r ∈ rows, S (fv r))
    (hsub : ∀ S : (Nat → Int) → Prop, Grp S → (∀ r ∈ rows', S (fv r)) → ∀ r ∈ rows, S (fv r)) : ∀ (d k : Nat) (v : Nat → Int), k + d = rows.length → (∀ j, rows.length ≤ j → v j = 0) → (∀ j, j < k → v j = 0) → (∀ S : (Nat → Int) → Prop, Grp S → (∀ r ∈ rows', S (fv r)) → S v) → S v
  | 0, k, v, hd, ho, hz, h => by
    have : v = fun _ => 0 := by
      funext j
      by_cases e : j < k
      · exact hz j e
      · exact ho j (by omega)
    rw [this]; exact G.zero
  | d + 1, k, v, hd, ho, hz, h => by
    have hk : k < rows.length := by omega
    have hn : rows'.length = rows.length := by rw [hR.len, hR'.len]
    have h1 := span_piv hR' hT' h (by omega : k < rows'.length) hz
    rw [heq k hk] at h1
    obtain ⟨q, hq⟩ := h1
    have hrow := hS rows[k] (List.getElem_mem hk)
    have hrk := (row_at hR hk).1
    have hzk := (hT k _ (List.getElem?_eq_getElem hk)).1
    have hv : S fun i => v i + -q * fv rows[k] i := by
      refine span_back hR hT hR' hT' heq G hS hsub d (k + 1) _ (by omega) (fun j hj => ?_) (fun j hj => ?_) fun S' G' hS' => ?_
      · show v j + -q * fv rows[k] j = 0
        rw [ho j hj, fv_out (by rw [(row_at hR hk).2.1, ← hR.len]; exact hj)]
        simp
      · show v j + -q * fv rows[k] j = 0
        by_cases e : j = k
        · subst e
          have : fv rows[j] j = pivA rows j := by unfold pivA; rw [hrk]; rfl
          rw [hq, this, Int.neg_mul, Int.mul_comm]
          omega
        · rw [hz j (by omega), show fv rows[k] j = 0 from hzk j (by omega)]
          simp
      · exact G'.add _ _ _ (h S' G' hS') (hsub S' G' hS' _ (List.getElem_mem hk))
    have h2 := G.add _ _ q hv hrow
    have e3 : (fun i => v i + -q * fv rows[k] i + q * fv rows[k] i) = v := by
      funext i
      rw [Int.neg_mul]
      omega
    rw [e3] at h2
    exact h2
section
variable {ss : List Int} {gs hs : List (List Int)} (z : Sz ss) (hg : gs ≠ []) (hl : ∀ g ∈ gs, g.length = ss.length)
include z hg hl
theorem coset_pos : 0 < cosetI ss gs := pivP_pos (shift_tri z hg hl) _ (by rw [(shift_rows z hg hl).len, odds_len]; exact Nat.le_refl _)
theorem coset_dvd_prod : cosetI ss gs ∣ prodI (oddsI ss) := by
  have hR := shift_rows z hg hl
  have hT := shift_tri z hg hl
  have hn : (shiftB ss gs).length = ss.length := by rw [hR.len, odds_len]
  obtain ⟨hspan, _⟩ := shift_grp z hg hl
  have key : ∀ k, k ≤ ss.length → pivP (shiftB ss gs) k ∣ prodI ((oddsI ss).take k) := by
    intro k
    induction k with
    | zero => intro _; exact Int.dvd_refl _
    | succ k ih =>
      intro hk
      have hko : k < (oddsI ss).length := by rw [odds_len]; omega
      rw [pivP_succ, prodI_take (List.getElem?_eq_getElem hko)]
      refine Int.mul_dvd_mul (ih (by omega)) ?_
      have h1 := span_piv hR hT (v := eU k (oddI (ss.getD k 0))) (fun S G hS => ((hspan S G).mp hS).1 k (by omega)) (by omega : k < (shiftB ss gs).length) (fun j hj => by unfold eU; rw [if_neg (by omega)])
      have e : (oddsI ss)[k] = oddI (ss.getD k 0) := by
        rw [← odds_get (by omega), getD_getD, List.getElem?_eq_getElem hko]
        rfl
      rw [e]
      unfold eU at h1
      rw [if_pos rfl] at h1
      exact h1
  have := key ss.length (Nat.le_refl _)
  rw [← odds_len (ss := ss), List.take_length, odds_len] at this
  exact this
theorem coset_odd : cosetI ss gs % 2 = 1 := by
  refine dvd_odd (coset_dvd_prod z hg hl) ?_
  have key : ∀ k, k ≤ (oddsI ss).length → prodI ((oddsI ss).take k) % 2 = 1 := by
    intro k
    induction k with
    | zero => intro _; rfl
    | succ k ih =>
      intro hk
      have hko : k < (oddsI ss).length := by omega
      rw [prodI_take (List.getElem?_eq_getElem hko), Int.mul_emod, ih (by omega)]
      have hks : k < ss.length := by rw [← odds_len (ss := ss)]; exact hko
      have e : (oddsI ss)[k] = oddI ss[k] := List.getElem_map oddI
      rw [e]
      obtain ⟨_, _, h⟩ := oddI_split (z.pos _ (List.getElem_mem hks))
      rw [h]
      rfl
  have := key _ (Nat.le_refl _)
  rwa [List.take_length] at this
variable (hh : hs ≠ []) (hhl : ∀ g ∈ hs, g.length = ss.length) (hsub : ∀ S : (Nat → Int) → Prop, Grp S → Gen ss hs S → Gen ss gs S)
include hh hhl hsub
/-- more targets: fewer sets -/
theorem coset_dvd : cosetI ss hs ∣ cosetI ss gs := by
  have hR := shift_rows z hg hl
  have hT := shift_tri z hg hl
  have hR' := shift_rows z hh hhl
  have hT' := shift_tri z hh hhl
  have hn : (shiftB ss gs).length = ss.length := by rw [hR.len, odds_len]
  have hn' : (shiftB ss hs).length = ss.length := by rw [hR'.len, odds_len]
  refine pivP_dvd_of _ fun k hk => ?_
  have hr : fv ((shiftB ss gs).getD k []) k = pivA (shiftB ss gs) k := rfl
  rw [← hr]
  refine span_piv hR' hT' (fun S G hS => ?_) (by omega) fun j hj => ?_
  · have h1 := ((shift_grp z hg hl).1 S G).mpr (hsub S G (((shift_grp z hh hhl).1 S G).mp hS))
    rw [(row_at hR (by omega)).1]
    exact h1 _ (List.getElem_mem (by omega))
  · rw [(row_at hR (by omega)).1]
    exact (hT k _ (List.getElem?_eq_getElem (by omega))).1 j hj
/-- as many sets: the same free shifts -/
theorem coset_same (e : cosetI ss hs = cosetI ss gs) {v : Nat → Int} (hv : ∀ j, ss.length ≤ j → v j = 0) (h : Free ss hs v) : Free ss gs v := by
  have hR := shift_rows z hg hl
  have hT := shift_tri z hg hl
  have hR' := shift_rows z hh hhl
  have hT' := shift_tri z hh hhl
  have hn : (shiftB ss gs).length = ss.length := by rw [hR.len, odds_len]
  have hn' : (shiftB ss hs).length = ss.length := by rw [hR'.len, odds_len]
  have hrows : ∀ S : (Nat → Int) → Prop, Grp S → (∀ r ∈ shiftB ss hs, S (fv r)) → ∀ r ∈ shiftB ss gs, S (fv r) := fun S G hS => ((shift_grp z hg hl).1 S G).mpr (hsub S G (((shift_grp z hh hhl).1 S G).mp hS))
  have hpd : ∀ k, k < ss.length → pivA (shiftB ss hs) k ∣ pivA (shiftB ss gs) k := fun k hk => by
    have hr : fv ((shiftB ss gs).getD k []) k = pivA (shiftB ss gs) k := rfl
    rw [← hr]
    refine span_piv hR' hT' (fun S G hS => ?_) (by omega) fun j hj => ?_
    · rw [(row_at hR (by omega)).1]
      exact hrows S G hS _ (List.getElem_mem (by omega))
    · rw [(row_at hR (by omega)).1]
      exact (hT k _ (List.getElem?_eq_getElem (by omega))).1 j hj
  have hpe := piv_all_eq ss.length (fun k hk => ⟨pivA_pos hR hT (by omega), pivA_pos hR' hT' (by omega), hpd k hk⟩) e
  intro S G hgen
  refine span_back hR hT hR' hT' (fun k hk => hpe k (by omega)) G (((shift_grp z hg hl).1 S G).mpr hgen) hrows (shiftB ss gs).length 0 v (by omega) (fun j hj => hv j (by omega)) (fun j hj => absurd hj (Nat.not_lt_zero j)) fun S' G' hS' => ?_
  exact h S' G' (((shift_grp z hh hhl).1 S' G').mp hS')
end
/-! ### witnesses -/
/-- a witness: modulus, weights, residue -/
structure Wit (ss : List Int) (m : Int) (ws : List Int) (r : Int) : Prop where
  len : ws.length = ss.length
  three : 3 ≤ m
  odd : m % 2 = 1
  rng : ∀ x ∈ ws, 0 ≤ x ∧ x < m
  fit : ∀ (i : Nat) x s, ws[i]? = some x → ss[i]? = some s → x * s % m = 0
  res : 0 ≤ r ∧ r < m
theorem dot_mod {d sm : Int} (hd : d ≠ 0) : ∀ (ws xs : List Int), (∀ x ∈ ws, d ∣ x) → d * sm ∣ dot ws xs - d * dot (ws.map fun x => x / d % sm) xs
  | [], xs, _ => by simp [dot]
  | x :: ws, [], _ => by simp [dot]
  | x :: ws, y :: xs, h => by
    obtain ⟨u, rfl⟩ := h x (List.mem_cons_self ..)
    have ih := dot_mod (sm := sm) hd ws xs (fun x hx => h x (List.mem_cons_of_mem _ hx))
    show d * sm ∣ d * u * y + dot ws xs - d * (d * u / d % sm * y + dot (ws.map fun x => x / d % sm) xs)
    rw [Int.mul_ediv_cancel_left _ hd]
    have e : d * u * y + dot ws xs - d * (u % sm * y + dot (ws.map fun x => x / d % sm) xs) = d * sm * (u / sm * y) + (dot ws xs - d * dot (ws.map fun x => x / d % sm) xs) := by
      have h1 : u = u % sm + sm * (u / sm) := by have := Int.emod_add_mul_ediv u sm; omega
      have h2 : d * u * y = d * (u % sm * y) + d * sm * (u / sm * y) := by
        conv => lhs; rw [h1]
        rw [Int.mul_add, Int.add_mul]
        congr 1
        · rw [Int.mul_assoc]
        · rw [← Int.mul_assoc, Int.mul_assoc (d * sm)]
      rw [h2, Int.mul_add]
      omega
    rw [e]
    exact Int.dvd_add (Int.dvd_mul_right _ _) ih
theorem dot_sub2 : ∀ (w a b : List Int), w.length = a.length → a.length = b.length → dot w (sub2 a b) = dot w a - dot w b
  | [], _, _, _, _ => by simp [dot]
  | x :: w, a :: as, b :: bs, h1, h2 => by
    show x * (a - b) + dot w (sub2 as bs) = (x * a + dot w as) - (x * b + dot w bs)
    rw [dot_sub2 w as bs (by simpa using h1) (by simpa using h2), Int.mul_sub]
    omega
  | x :: w, [], _, h1, _ => by simp at h1
  | x :: w, a :: as, [], _, h2 => by simp at h2
theorem emod_eq_iff {m a b : Int} : a % m = b % m ↔ m ∣ a - b := by
  rw [Int.emod_eq_emod_iff_emod_sub_eq_zero, Int.dvd_iff_emod_eq_zero]
theorem red_dvd {m : Int} {w x : List Int} (hm : 0 < m) : smallW m w ∣ dot (redW m w) x ↔ m ∣ dot w x := by
  obtain ⟨g1, g2, g3⟩ := gcdW_dvd w m hm
  have hms : m = gcdW m w * smallW m w := by
    unfold smallW
    rw [Int.mul_ediv_cancel' g2]
  have h1 := dot_mod (d := gcdW m w) (sm := smallW m w) (by omega) w x g3
  rw [← hms] at h1
  have e : (w.map fun x => x / gcdW m w % smallW m w) = redW m w := rfl
  rw [e] at h1
  constructor
  · rintro ⟨q, hq⟩
    have h2 : m ∣ gcdW m w * dot (redW m w) x := by
      rw [hq, ← Int.mul_assoc, ← hms]
      exact Int.dvd_mul_right _ _
    have := Int.dvd_add h1 h2
    rw [Int.sub_add_cancel] at this
    exact this
  · intro h
    have h2 := Int.dvd_sub h h1
    rw [show dot w x - (dot w x - gcdW m w * dot (redW m w) x) = gcdW m w * dot (redW m w) x by omega] at h2
    have h3 : gcdW m w * smallW m w ∣ gcdW m w * dot (redW m w) x := by rw [← hms]; exact h2
    exact Int.dvd_of_mul_dvd_mul_left (by omega) h3
/-- what reach answers is a witness: all targets have its residue, the seat has not -/
theorem reach_wit {ss : List Int} {gs : List (List Int)} (z : Sz ss) (hg : gs ≠ []) (hl : ∀ g ∈ gs, g.length = ss.length) {p : List Int} (hp : p.length = ss.length) {c : Nat} (h : reachI ss gs p = some c) :
    Wit ss (smallW (cosetI ss gs) (invC (shiftB ss gs) (cosetI ss gs) c c)) (redW (cosetI ss gs) (invC (shiftB ss gs) (cosetI ss gs) c c)) (dot (redW (cosetI ss gs) (invC (shiftB ss gs) (cosetI ss gs) c c)) (gs.headD []) % smallW (cosetI ss gs) (invC (shiftB ss gs) (cosetI ss gs) c c)) ∧
    (∀ g ∈ gs, dot (redW (cosetI ss gs) (invC (shiftB ss gs) (cosetI ss gs) c c)) g % smallW (cosetI ss gs) (invC (shiftB ss gs) (cosetI ss gs) c c) = dot (redW (cosetI ss gs) (invC (shiftB ss gs) (cosetI ss gs) c c)) (gs.headD []) % smallW (cosetI ss gs) (invC (shiftB ss gs) (cosetI ss gs) c c)) ∧
    dot (redW (cosetI ss gs) (invC (shiftB ss gs) (cosetI ss gs) c c)) p % smallW (cosetI ss gs) (invC (shiftB ss gs) (cosetI ss gs) c c) ≠ dot (redW (cosetI ss gs) (invC (shiftB ss gs) (cosetI ss gs) c c)) (gs.headD []) % smallW (cosetI ss gs) (invC (shiftB ss gs) (cosetI ss gs) c c) := by
  unfold reachI at h
  have hcol := List.find?_some h
  have hc := List.mem_range.mp (List.mem_of_find?_eq_some h)
  unfold colF at hcol
  rw [show pivP (shiftB ss gs) ss.length = cosetI ss gs from rfl] at hcol
  have hcol : ¬ cosetI ss gs ∣ dot (invC (shiftB ss gs) (cosetI ss gs) c c) (sub2 p (gs.headD [])) := by
    rw [Int.dvd_iff_emod_eq_zero]
    simpa using hcol
  have hL := (lat_w z hg hl hc).1
  have hm := coset_pos z hg hl
  have hodd := coset_odd z hg hl
  generalize invC (shiftB ss gs) (cosetI ss gs) c c = w at *
  generalize cosetI ss gs = m at *
  have hs := smallW_pos (ws := w) hm
  have hrl : (redW m w).length = ss.length := by unfold redW; rw [List.length_map]; exact hL.len
  have hg0 := hl _ (headD_mem hg)
  have hx : ∀ x : List Int, x.length = ss.length → (dot (redW m w) x % smallW m w = dot (redW m w) (gs.headD []) % smallW m w ↔ m ∣ dot w (sub2 x (gs.headD []))) := fun x hxl => by
    rw [emod_eq_iff, ← dot_sub2 _ _ _ (by rw [hrl, hxl]) (by rw [hxl, hg0]), red_dvd hm]
  obtain ⟨g1, g2, g3⟩ := gcdW_dvd w m hm
  have hms : m = gcdW m w * smallW m w := by
    unfold smallW
    rw [Int.mul_ediv_cancel' g2]
  have hne : dot (redW m w) p % smallW m w ≠ dot (redW m w) (gs.headD []) % smallW m w := fun e => hcol ((hx p hp).mp e)
  have ho : smallW m w % 2 = 1 := dvd_odd ⟨gcdW m w, by rw [Int.mul_comm]; exact hms⟩ hodd
  have h1 : smallW m w ≠ 1 := fun e => by
    rw [e] at hne
    simp at hne
  refine ⟨⟨hrl, by omega, ho, fun x hx => ?_, fun i x s h1 h2 => ?_, Int.emod_nonneg _ (by omega), Int.emod_lt_of_pos _ hs⟩, fun g hgm => (hx g (hl g hgm)).mpr (hL.dif g hgm), hne⟩
  · unfold redW at hx
    obtain ⟨u, _, rfl⟩ := List.mem_map.mp hx
    exact ⟨Int.emod_nonneg _ (by omega), Int.emod_lt_of_pos _ hs⟩
  · unfold redW at h1
    rw [List.getElem?_map, Option.map_eq_some_iff] at h1
    obtain ⟨u, hu, rfl⟩ := h1
    have hi : i < ss.length := (List.getElem?_eq_some_iff.mp h2).1
    have h3 := hL.odd i hi
    rw [getD_getD, hu, getD_getD, h2, Option.getD_some, Option.getD_some] at h3
    obtain ⟨v, rfl⟩ := g3 u (List.mem_of_getElem? hu)
    have hos := oddI_dvd (z.pos s (List.mem_of_getElem? h2))
    rw [Int.mul_ediv_cancel_left _ (by omega : gcdW m w ≠ 0)]
    have h4 : gcdW m w * smallW m w ∣ gcdW m w * (v * oddI s) := by rw [← hms, ← Int.mul_assoc]; exact h3
    have h5 := Int.dvd_of_mul_dvd_mul_left (by omega : gcdW m w ≠ 0) h4
    have h6 : smallW m w ∣ v * s := Int.dvd_trans h5 (Int.mul_dvd_mul (Int.dvd_refl _) hos)
    have h7 := Int.dvd_iff_emod_eq_zero.mp h6
    rw [Int.mul_emod] at h7
    rw [Int.mul_emod, Int.emod_emod_of_dvd _ (Int.dvd_refl _), h7]

/-! ### witnesses in the program -/
section
variable {P : Program} {w : World} {K : PySem.W.Frag} {mg : Str → Option Value} {base : Heap}
/-- a witness at sh -/
def ShAt (H : Hp) (sh : Addr) (m : Int) (ws : List Int) (r : Int) : Prop := ∃ u, H sh = some (.tup [.int m, .ref u, .int r]) ∧ H u = some (.tup (ws.map V.int))
theorem ShAt.same {H H' : Hp} {sh : Addr} {m : Int} {ws : List Int} {r : Int} (e : Same H H') (h : ShAt H sh m ws r) : ShAt H' sh m ws r := by
  obtain ⟨u, h1, h2⟩ := h
  exact ⟨u, e _ _ h1, e _ _ h2⟩
theorem mul_seat {ss ws ps : List Int} {m r : Int} (hw : Wit ss m ws r) (z : Sz ss) (hmb : m.natAbs < 2 ^ 8000) (h : Seat ss ps) : ∀ (i : Nat) x y, ws[i]? = some x → ps[i]? = some y → CMulA x y := fun i x y hx hy => by
  have h1 := hw.rng _ (List.mem_of_getElem? hx)
  have hi : i < ss.length := by rw [← hw.len]; exact (List.getElem?_eq_some_iff.mp hx).1
  have h2 := h.ok i y _ hy (List.getElem?_eq_getElem hi)
  have h3 := z.bits _ (List.getElem_mem hi)
  exact .inr (.inr (wide_mul (a := 8000) (b := 1000) (by omega) (by omega) (by decide) (by decide) (by decide)))
theorem Seat.b4 {K : PySem.W.Frag} {H : Hp} {ss ps : List Int} {p : Addr} (h : Seat ss ps) (z : ss.length ≤ 4) (hp : H p = some (.tup (ps.map V.int))) : SeatB K H ss (.ref p) true := by
  refine .inr ⟨p, _, rfl, hp, .inr ⟨by rw [List.length_map]; exact h.len, ?_, List.replicate ps.length true, by simp, by simp, fun i x s c hx hs hc => ?_⟩⟩
  · have hl := h.len
    rw [List.length_map]
    exact Nat.le_trans (by omega : ps.length ≤ 4) (by decide)
  · simp only [List.getElem?_map, Option.map_eq_some_iff] at hx
    obtain ⟨n, hn, rfl⟩ := hx
    have hi : i < ps.length := (List.getElem?_eq_some_iff.mp hn).1
    rw [List.getElem?_replicate, if_pos hi] at hc
    obtain ⟨h1, h2⟩ := h.ok i n s hn hs
    refine .inr ⟨n, rfl, ?_⟩
    rw [decide_eq_true h1, decide_eq_true h2]
    exact (Option.some.inj hc).symm
theorem Wit.seat {ss ws : List Int} {m r : Int} (hw : Wit ss m ws r) : Seat (List.replicate ss.length m) ws := by
  refine ⟨by rw [hw.len]; simp, fun i p s hp hs => ?_⟩
  rw [List.getElem?_replicate] at hs
  split at hs
  · obtain rfl := Option.some.inj hs
    exact hw.rng _ (List.mem_of_getElem? hp)
  · cases hs
def sp_is_modulus (K : PySem.W.Frag) : Sp := fun vs H Q _ => ∃ m : Int, vs = [.int m] ∧ 3 ≤ m ∧ m % 2 = 1 ∧ Q (.bl true) H
theorem flatm (m : Int) (k : Nat) : (List.replicate k [V.int m]).flatten = (List.replicate k m).map V.int := by
  induction k with
  | zero => rfl
  | succ k ih => rw [List.replicate_succ, List.flatten_cons, ih, List.replicate_succ]; rfl
def sp_are_weights (K : PySem.W.Frag) : Sp := fun vs H Q _ => ∃ (kz : Bool) (z u : Addr) (ss ws : List Int) (m r : Int), vs = [.ref z, .int m, .ref u] ∧ Sqh kz H z (ss.map V.int) ∧ H u = some (.tup (ws.map V.int)) ∧ Wit ss m ws r ∧ Sz ss ∧ m.natAbs < 2 ^ 8000 ∧ ∀ H', Same H H' → Q (.bl true) H'
def sp_is_witness (K : PySem.W.Frag) : Sp := fun vs H Q _ => ∃ (kz : Bool) (z sh : Addr) (ss ws : List Int) (m r : Int), vs = [.ref z, .ref sh] ∧ Sqh kz H z (ss.map V.int) ∧ ShAt H sh m ws r ∧ Wit ss m ws r ∧ Sz ss ∧ m.natAbs < 2 ^ 8000 ∧ ∀ H', Same H H' → Q (.bl true) H'
def sp_require_witness (K : PySem.W.Frag) : Sp := fun vs H Q _ => ∃ (kz : Bool) (z sh : Addr) (ss ws : List Int) (m r : Int), vs = [.ref z, .ref sh] ∧ Sqh kz H z (ss.map V.int) ∧ ShAt H sh m ws r ∧ Wit ss m ws r ∧ Sz ss ∧ m.natAbs < 2 ^ 8000 ∧ ∀ H', Same H H' → Q .non H'
def sp_has_residue (K : PySem.W.Frag) : Sp := fun vs H Q _ => ∃ (sh p : Addr) (ps ws : List Int) (m r : Int), vs = [.ref sh, .ref p] ∧ ShAt H sh m ws r ∧ H p = some (.tup (ps.map V.int)) ∧ ws.length = ps.length ∧ ws.length ≤ 64 ∧ 0 < m ∧ (∀ (i : Nat) x y, ws[i]? = some x → ps[i]? = some y → CMulA x y) ∧
  ∀ H', Same H H' → Q (.bl (decide (dot ws ps % m = r))) H'
def sp_check_witness (K : PySem.W.Frag) (C : Addr) : Sp := fun vs H Q _ => ∃ (k : Bool) (a tg p sh : Addr) (ss : List Int) (gs : List (List Int)) (ps ws : List Int) (m r : Int), vs = [.ref a, .ref tg, .ref p, .ref sh] ∧ TabAt C H a ss ∧ TgtAt k H tg gs ∧ Tgts ss gs ∧ Sz ss ∧ H p = some (.tup (ps.map V.int)) ∧ Seat ss ps ∧ ShAt H sh m ws r ∧ Wit ss m ws r ∧ m.natAbs < 2 ^ 8000 ∧
  (∀ g ∈ gs, dot ws g % m = r) ∧ dot ws ps % m ≠ r ∧ ∀ H', Same H H' → Q .non H'
def MCW0 (a tg p sh : Addr) (ss : List Int) (H : Hp) (σ : L2.St) (H' : Hp) : Prop := ∃ t, σ = [some (V.ref a), some (V.ref tg), some (V.ref p), some (V.ref sh), some (V.ref t), none, none] ∧ H' = H ∧ H' t = some (.tup (ss.map V.int))
def MCW1 (a tg p sh t : Addr) (H : Hp) (σ : L2.St) (H' : Hp) : Prop := ∃ v5 v6, σ = [some (V.ref a), some (V.ref tg), some (V.ref p), some (V.ref sh), some (V.ref t), v5, v6] ∧ Same H H'
end

/-! ### the law's gcd, odd part, values, witnesses -/
section
variable {P : Program} {w : World} {K : PySem.W.Frag} {mg : Str → Option Value} {base : Heap}
theorem fmod_abs (a : Int) {b : Int} (h : b ≠ 0) : (a.fmod b).natAbs < b.natAbs := by
  rw [Int.fmod_eq_emod]
  have h1 := Int.emod_nonneg a h
  have h2 := Int.emod_lt a h
  by_cases hp : 0 ≤ b
  · rw [if_pos (.inl hp)]; omega
  · by_cases hd : b ∣ a
    · rw [if_pos (.inr hd)]; omega
    · rw [if_neg (by rintro (h | h); exact hp h; exact hd h)]
      have : a % b ≠ 0 := fun e => hd (Int.dvd_of_emod_eq_zero e)
      omega
theorem fmod_gcd (a : Int) {b : Int} : Nat.gcd b.natAbs (a.fmod b).natAbs = Nat.gcd a.natAbs b.natAbs := by
  have e : a.fmod b = a - b * a.fdiv b := Int.fmod_def a b
  apply Nat.dvd_antisymm
  · refine Nat.dvd_gcd ?_ (Nat.gcd_dvd_left _ _)
    have h1 : ((Nat.gcd b.natAbs (a.fmod b).natAbs : Nat) : Int) ∣ b := cd_of (Nat.gcd_dvd_left _ _)
    have h2 : ((Nat.gcd b.natAbs (a.fmod b).natAbs : Nat) : Int) ∣ a.fmod b := cd_of (Nat.gcd_dvd_right _ _)
    have h3 := Int.dvd_add h2 (Int.dvd_mul_of_dvd_left (c := a.fdiv b) h1)
    have e2 : a.fmod b + b * a.fdiv b = a := by rw [e]; omega
    rw [e2] at h3
    exact cd_to h3
  · refine Nat.dvd_gcd (Nat.gcd_dvd_right _ _) ?_
    have h1 : ((Nat.gcd a.natAbs b.natAbs : Nat) : Int) ∣ b := cd_of (Nat.gcd_dvd_right _ _)
    have h2 : ((Nat.gcd a.natAbs b.natAbs : Nat) : Int) ∣ a := cd_of (Nat.gcd_dvd_left _ _)
    have h3 := Int.dvd_sub h2 (Int.dvd_mul_of_dvd_left (c := a.fdiv b) h1)
    rw [← e] at h3
    exact cd_to h3
def sp_law_gcd (K : PySem.W.Frag) : Sp := fun vs H Q _ => ∃ a b : Int, vs = [.int a, .int b] ∧ Q (.int ((Nat.gcd a.natAbs b.natAbs : Nat) : Int)) H
theorem oddI_even {n : Int} (h : 1 ≤ n) (e : n % 2 = 0) : oddI (n / 2) = oddI n := by
  obtain ⟨m, rfl⟩ := Int.eq_ofNat_of_zero_le (by omega : 0 ≤ n)
  obtain ⟨q, hq⟩ : ∃ q, m = 2 * q := ⟨m / 2, by omega⟩
  unfold oddI
  have e1 : ((m : Int) / 2).toNat = q := by omega
  rw [e1, Int.toNat_natCast, hq, odd_even (by omega)]
theorem oddI_odd {n : Int} (h : 1 ≤ n) (e : n % 2 = 1) : oddI n = n := by
  obtain ⟨m, rfl⟩ := Int.eq_ofNat_of_zero_le (by omega : 0 ≤ n)
  obtain ⟨q, hq⟩ : ∃ q, m = 2 * q + 1 := ⟨m / 2, by omega⟩
  unfold oddI
  rw [Int.toNat_natCast, hq, odd_odd]
def sp_law_odd_part (K : PySem.W.Frag) : Sp := fun vs H Q _ => ∃ n : Int, vs = [.int n] ∧ 1 ≤ n ∧ Q (.int (oddI n)) H
theorem ok_law_odd_part (T : Tx K mg) : FnOk P w K mg base CX0 1 T.f_law_odd_part T.fd_law_odd_part ["_law_number"] (sp_law_odd_part K) := by
  refine T.F_law_odd_part.ok sc_law_odd_part (fun vs H Q E h => ?_) (fun cdv A outer s H vs Q E hr h => ?_)
  · obtain ⟨n, rfl, _⟩ := h; rfl
  · obtain ⟨n, rfl, h1, q⟩ := h
    refine ⟨_, (pss_cons (ps_while PassesOwn.never (pt_cmpR op_eq (pe_op op_mod (pv 0) pe_int) pe_int (nomark _)) (pss_one (ps_set (i := 0) sc_law_odd_part.nd rfl (Or.inl rfl) (pe_op op_fdivW (pv 0) pe_int))))
      (pss_one (ps_ret (pv 0)))), ?_⟩
    refine while_by (fun σ H' => H' = H ∧ ∃ c : Int, σ = [some (V.int c)] ∧ 1 ≤ c ∧ oddI c = oddI n) (fun σ _ => match σ with | [some (V.int c)] => c.toNat | _ => 0) ⟨rfl, n, rfl, h1, rfl⟩ ?_ ?_
    · rintro σ H1 ⟨rfl, c, rfl, hc, hg⟩
      walk_at "rd"
      by_cases h0 : c % 2 = 0
      · rw [if_pos h0]
        exact ⟨by omega, by rw [oddI_even hc h0, hg], by omega⟩
      · rw [if_neg h0]
        rw [← hg, oddI_odd hc (by omega)] at q
        exact q
    · intro σ H1 Q1 Q2 h hq
      obtain ⟨v, e, i, j, e1, e2, hp, es, k, e3, hq⟩ := hq
      exact ⟨v, e, i, j, e1, e2, hp, es, k, e3, h _ _ hq⟩
def sp_law_value (K : PySem.W.Frag) : Sp := fun vs H Q _ => ∃ (sh o : Addr) (m r : Int) (ws ps : List Int), vs = [.ref sh, .ref o] ∧ ShAt H sh m ws r ∧ H o = some (.tup (ps.map V.int)) ∧ ws.length = ps.length ∧ ws.length ≤ 64 ∧ 0 < m ∧
  (∀ (i : Nat) x y, ws[i]? = some x → ps[i]? = some y → CMulA x y) ∧ ∀ H', Same H H' → Q (.int (dot ws ps % m)) H'
def MB1 (l sh : Addr) (H : Hp) (σ : L2.St) (H' : Hp) : Prop := σ = [some (V.ref l), some (V.ref sh), none, none, none, none] ∧ Same H H'
def MB2 (l sh : Addr) (xs : List Int) (H : Hp) (σ : L2.St) (H' : Hp) : Prop := ∃ pl, σ = [some (V.ref l), some (V.ref sh), some (V.ref pl), none, none, none] ∧ Same H H' ∧ H' pl = some (.lst (xs.map V.int))
def MB3 (l sh pl : Addr) (H : Hp) (σ : L2.St) (H' : Hp) : Prop := σ = [some (V.ref l), some (V.ref sh), some (V.ref pl), none, none, none] ∧ Same H H'
theorem cut_front (xs : List V) (n : Nat) : cutV xs none (some (n : Int)) = xs.take n := by
  unfold cutV
  rw [HT.sIx_none, HT.sIx_nat]
  show (xs.drop 0).take (min n xs.length - 0) = xs.take n
  rw [List.drop_zero, Nat.sub_zero]
  by_cases h : n ≤ xs.length
  · rw [Nat.min_eq_left h]
  · rw [Nat.min_eq_right (by omega), List.take_length, List.take_of_length_le (by omega)]
theorem cut_tail (x : V) (xs : List V) : cutV (x :: xs) (some 1) none = xs := by
  unfold cutV
  rw [show (1 : Int) = ((1 : Nat) : Int) by rfl, HT.sIx_nat, HT.sIx_none]
  simp
/-- a comprehension whose test fails everywhere -/
theorem lcr_none {J : It} {n : Nat} {G : Hp → Prop} {Y : Nat → Hp → V → Hp → Prop} (w : Walk J n G Y) {g : TG} {tt : TT} {te : TE} {vs : List Nat} {σ : L2.St} {H1 : Hp} {Q : VK} (hn : n < sizeLine) (hG : ∀ H, Same H1 H → G H)
    (hY : ∀ i x H H', Y i H x H' → Same H H')
    (hs : ∀ i x H H' (Qn : Hp → Prop) (Qy : VK), i < n → Same H1 H → Y i H x H' → (∀ H4, Same H' H4 → Qn H4) → g x (wipe σ vs) H' fun σ2 H2 => wipe σ2 vs = wipe σ vs ∧ tt σ2 H2 fun b H3 => if b = true then te σ2 H3 Qy else Qn H3)
    (hd : ∀ D H, Same H1 H → H1 D = none → H D = some (.lst []) → Q (.ref D) H) : LcR J g tt te vs σ H1 Q :=
  lcr_if w (fun D i acc H => Same H1 H ∧ acc = []) hn (fun D hD => ⟨Same.new hD, rfl⟩) (fun D i acc H hD hi h e => hG H h.1) (fun D i acc H l hD h hne => ⟨fun b o e => by rw [upd_ne (ne_some e hD)]; exact h.1 b o e, h.2⟩)
    (fun D i acc x H H' Qn Qy hD hi h e hy hn hq => hs i x H H' Qn Qy hi h.1 hy fun H4 s4 => hn H4 (by
      have := (hY _ _ _ _ hy).trans s4
      exact this _ _ e) ⟨h.1.trans ((hY _ _ _ _ hy).trans s4), h.2⟩) fun D acc H hD _ h e => hd D H h.1 hD (by rw [h.2] at e; exact e)
def sp_law_is_witness (K : PySem.W.Frag) : Sp := fun vs H Q _ => ∃ (kl : Bool) (l sh : Addr) (ss ws : List Int) (m r : Int), vs = [.ref l, .ref sh] ∧ Sqh kl H l (ss.map V.int) ∧ ShAt H sh m ws r ∧ Wit ss m ws r ∧ Sz ss ∧ m.natAbs < 2 ^ 8000 ∧ ∀ H', Same H H' → Q (.bl true) H'
def sp_law_due (K : PySem.W.Frag) : Sp := fun vs H Q _ => ∃ (kl k : Bool) (l tg o sh : Addr) (ss ws ps : List Int) (gs : List (List Int)) (m r : Int), vs = [.ref l, .ref tg, .ref o, .ref sh] ∧ Sqh kl H l (ss.map V.int) ∧ TgtAt k H tg gs ∧ H o = some (.tup (ps.map V.int)) ∧ ShAt H sh m ws r ∧ Wit ss m ws r ∧ Sz ss ∧ m.natAbs < 2 ^ 8000 ∧ Seat ss ps ∧ (∀ g ∈ gs, Seat ss g) ∧
  (∀ g ∈ gs, dot ws g % m = r) ∧ dot ws ps % m ≠ r ∧ ∀ H', Same H H' → Q .non H'
theorem flat_ints : ∀ ts : List Int, (ts.map V.int).all flatV = true
  | [] => rfl
  | t :: ts => by
    rw [List.map_cons, List.all_cons, flat_ints ts]
    rfl
theorem inV_ints (n : Int) : ∀ ts : List Int, inV (V.int n) (ts.map V.int) = decide (n ∈ ts)
  | [] => rfl
  | t :: ts => by
    have ih := inV_ints n ts
    unfold inV at ih ⊢
    rw [List.map_cons, List.any_cons, ih]
    show ((t == n) || decide (n ∈ ts)) = _
    by_cases h : t = n
    · subst h; simp
    · have : ¬ n = t := fun e => h e.symm
      simp [h, this]
/-! what reach answers, held against ('reachable',) -/
def foundD (ss : List Int) (gs : List (List Int)) (p : List Int) : PyData := match reachI ss gs p with
  | none => .tuple [.str "reachable"]
  | some c => .tuple [.str "unreachable", .tuple [.int (smallW (cosetI ss gs) (invC (shiftB ss gs) (cosetI ss gs) c c)), tupI (redW (cosetI ss gs) (invC (shiftB ss gs) (cosetI ss gs) c c)), .int (dot (redW (cosetI ss gs) (invC (shiftB ss gs) (cosetI ss gs) c c)) (gs.headD []) % smallW (cosetI ss gs) (invC (shiftB ss gs) (cosetI ss gs) c c))]]
theorem found_dp {H : Hp} {D : Addr} {ss : List Int} {gs : List (List Int)} {p : List Int} (h : RchAt H D ss gs p) : Dp K H (.ref D) (foundD ss gs p) := by
  unfold foundD
  rcases h with ⟨e, h1⟩ | ⟨c, u, r, e, h1, h2, h3⟩
  · rw [e]
    exact .tup (.inl (.inl h1)) (.cons (.str _) .nil)
  · rw [e]
    exact .tup (.inl (.inl h1)) (.cons (.str _) (.cons (.tup (.inl (.inl h2)) (.cons (.int _) (.cons (dp_tupI (.inl (.inl h3))) (.cons (.int _) .nil)))) .nil))
theorem word_shaped : SeqAt.shaped (.tuple [.str "reachable"]) = true := by decide +kernel
theorem word_eqv : PyData.eqv (.tuple [.str "reachable"]) (.tuple [.str "reachable"]) = true := by decide +kernel
theorem found_shaped (ss : List Int) (gs : List (List Int)) (p : List Int) : SeqAt.shaped (foundD ss gs p) = true := by
  unfold foundD
  cases reachI ss gs p with
  | none => exact word_shaped
  | some c =>
    have key : ∀ (m : Int) (ws : List Int) (r : Int), SeqAt.shaped (.tuple [.str "unreachable", .tuple [.int m, tupI ws, .int r]]) = true := fun m ws r => by
      have h1 : PyData.canLay0 (.tuple [.str "unreachable", .tuple [.int m, tupI ws, .int r]]) = true := by
        show (PyData.canLay0 (.str "unreachable") && ((true && (PyData.canLayAll0 (ws.map PyData.int) && (true && true))) && true)) = true
        rw [canLay_ints, show PyData.canLay0 (.str "unreachable") = true by decide +kernel]
        rfl
      have h2 : PyData.depth (.tuple [.str "unreachable", .tuple [.int m, tupI ws, .int r]]) ≤ 64 := by
        show max 0 (max (max 0 (max (PyData.depth (tupI ws)) (max 0 0)) + 1) 0) + 1 ≤ 64
        rw [depth_tupI]
        decide
      unfold SeqAt.shaped
      rw [h1, decide_eq_true h2]
      rfl
    exact key _ _ _
theorem found_eqv (ss : List Int) (gs : List (List Int)) (p : List Int) : PyData.eqv (foundD ss gs p) (.tuple [.str "reachable"]) = (reachI ss gs p).isNone := by
  unfold foundD
  cases reachI ss gs p with
  | none => exact word_eqv
  | some c =>
    have key : ∀ d : PyData, PyData.eqv (.tuple [.str "unreachable", d]) (.tuple [.str "reachable"]) = false := fun d => by
      show (PyData.eqv (.str "unreachable") (.str "reachable") && PyData.eqvAll [d] []) = false
      rw [show PyData.eqv (.str "unreachable") (.str "reachable") = false by decide +kernel]
      rfl
    exact key _
theorem found_eq {H : Hp} {D w : Addr} {ss : List Int} {gs : List (List Int)} {p : List Int} {Q : VK} (h : RchAt H D ss gs p) (hw : H w = some (.tup [.str "reachable"])) (q : Q (.bl (reachI ss gs p).isNone) H) : rEqD K (.ref D) (.ref w) H Q :=
  ⟨_, _, found_dp h, .tup (.inl (.inl hw)) (.cons (.str _) .nil), found_shaped _ _ _, word_shaped, by rw [found_eqv]; exact q⟩
theorem found_ne {H : Hp} {D w : Addr} {ss : List Int} {gs : List (List Int)} {p : List Int} {Q : VK} (h : RchAt H D ss gs p) (hw : H w = some (.tup [.str "reachable"])) (q : Q (.bl (!(reachI ss gs p).isNone)) H) : rNeD K (.ref D) (.ref w) H Q :=
  ⟨_, _, found_dp h, .tup (.inl (.inl hw)) (.cons (.str _) .nil), found_shaped _ _ _, word_shaped, by rw [found_eqv]; exact q⟩
theorem RchAt.same {H H' : Hp} {D : Addr} {ss : List Int} {gs : List (List Int)} {p : List Int} (s : Same H H') (h : RchAt H D ss gs p) : RchAt H' D ss gs p := by
  rcases h with ⟨e, h1⟩ | ⟨c, u, r, e, h1, h2, h3⟩
  · exact .inl ⟨e, s _ _ h1⟩
  · exact .inr ⟨c, u, r, e, s _ _ h1, s _ _ h2, s _ _ h3⟩
end

/-! ### the law's draws -/
section
variable {P : Program} {w : World} {K : PySem.W.Frag} {mg : Str → Option Value} {base : Heap}
def Src (H : Hp) (a : Addr) : Prop := ∃ s c d : Int, H a = some (.lst [.int s, .int c, .int d])
theorem Src.same {H H' : Hp} {a : Addr} (e : Same H H') (h : Src H a) : Src H' a := by
  obtain ⟨s, c, d, h⟩ := h
  exact ⟨s, c, d, e _ _ h⟩
theorem Src.ne {H : Hp} {a p : Addr} (h : Src H a) (hp : H p = none) : p ≠ a := fun e => by
  obtain ⟨s, c, d, h⟩ := h
  rw [e, h] at hp
  cases hp
theorem upd_none_of {H : Hp} {p q : Addr} {o : HO} (h : upd H p o q = none) : H q = none ∧ q ≠ p := by
  unfold upd at h
  by_cases e : q = p
  · rw [if_pos e] at h; cases h
  · rw [if_neg e] at h; exact ⟨h, e⟩
theorem Src.put {H : Hp} {a p : Addr} {o : HO} (h : Src H a) (n : a ≠ p) : Src (upd H p o) a := by
  obtain ⟨s, c, d, h⟩ := h
  exact ⟨s, c, d, by rw [upd_ne n]; exact h⟩
def sp_law_mixed (K : PySem.W.Frag) : Sp := fun vs H Q _ => ∃ c d : Int, vs = [.int c, .int d] ∧ ∀ r : Int, Q (.int r) H
theorem ok_law_mixed (T : Tx K mg) : FnOk P w K mg base CX0 1 T.f_law_mixed T.fd_law_mixed ["_law_cell", "_law_draw"] (sp_law_mixed K) := by
  refine T.F_law_mixed.ok sc_law_mixed (fun vs H Q E h => ?_) (fun cdv A outer s H vs Q E hr h => ?_)
  · obtain ⟨c, d, rfl, _⟩ := h; rfl
  · obtain ⟨c, d, rfl, q⟩ := h
    refine ⟨_, (pss_cons (ps_set (i := 2) sc_law_mixed.nd rfl (Or.inl rfl) (pe_op op_mod (pe_op op_mulA (pe_op op_add (pe_op op_mod (pv 0) pe_int) pe_int) (pe_op op_add (pe_op op_mulA (pv 1) pe_int) pe_int)) pe_int))
      (pss_cons (ps_set (i := 2) sc_law_mixed.nd rfl (Or.inl rfl) (pe_op op_mod (pe_op op_mulA (pe_op op_add (pv 2) (pe_op op_mulA (pe_op op_mod (pe_op op_fdivW (pv 0) pe_int) pe_int) (pe_op op_add (pv 1) pe_int))) pe_int) pe_int))
      (pss_cons (ps_set (i := 2) sc_law_mixed.nd rfl (Or.inl rfl) (pe_op op_mod (pe_op op_mulA (pv 2) (pe_op op_add (pe_op op_add (pe_op op_fdivW (pv 2) pe_int) pe_int) (pv 1))) pe_int))
      (pss_one (ps_ret (pe_op op_mod (pe_op op_mulA (pv 2) (pe_op op_add (pe_op op_fdivW (pv 2) pe_int) pe_int)) pe_int)))))), ?_⟩
    walk_at "rd"
    refine ⟨.inr (.inl (by decide)), .inl ?_, .inl ?_, .inr (.inl (by decide)), .inl ?_, .inl ?_, q _⟩
    · omega
    · omega
    · generalize ((c % 2147483646 + 1) * (d * 7919 + 104729) % 2147483647 + c / 2147483646 % 1000003 * (d + 31)) * 48271 = z
      omega
    · generalize ((c % 2147483646 + 1) * (d * 7919 + 104729) % 2147483647 + c / 2147483646 % 1000003 * (d + 31)) * 48271 % 2147483629 * (((c % 2147483646 + 1) * (d * 7919 + 104729) % 2147483647 + c / 2147483646 % 1000003 * (d + 31)) * 48271 % 2147483629 / 1013 + 69621 + d) = z
      omega
def sp_law_take (K : PySem.W.Frag) : Sp := fun vs H Q _ => ∃ (a : Addr) (n : Int), vs = [.ref a, .int n] ∧ Src H a ∧ 0 < n ∧ n.natAbs < 2 ^ 8000 ∧ ∀ H' r, Sx a H H' → Src H' a → 0 ≤ r → r < n → Q (.int r) H'
theorem ok_law_take (T : Tx K mg) : FnOk P w K mg base CX0 2 T.f_law_take T.fd_law_take ["_law_source_here", "_law_count"] (sp_law_take K) := by
  refine T.F_law_take.ok sc_law_take (fun vs H Q E h => ?_) (fun cdv A outer s H vs Q E hr h => ?_)
  · obtain ⟨a, n, rfl, _⟩ := h; rfl
  · obtain ⟨a, n, rfl, ⟨s, c, d, hs⟩, hn, hb, q⟩ := h
    refine ⟨_, (pss_cons (ps_if (pt_cmpR op_ge (pe_ix ix_lH (pv 0) pe_int (fun _ _ => rfl)) (pe_op op_pow pe_int pe_int) (nomark _)) (pss_cons (ps_set (i := 2) sc_law_take.nd rfl (Or.inl rfl) (pe_op op_mod (pe_ix ix_lH (pv 0) pe_int (fun _ _ => rfl)) (pv 1)))
        (pss_cons (ps_asg (pe_op op_fdivW (pe_ix ix_lH (pv 0) pe_int (fun _ _ => rfl)) (pv 1)) (pg_sub (pv 0) pe_int set_lH))
        (pss_one (ps_ret (pv 2))))) pss_nil)
      (pss_cons (ps_asg (pe_op op_add (pe_ix ix_lH (pv 0) pe_int (fun _ _ => rfl)) pe_int) (pg_sub (pv 0) pe_int set_lH))
      (pss_one (ps_ret (pe_op op_mod (pe_call (ok_law_mixed T) (hr.mono (by decide)) (by rfl) T.g_law_mixed T.F_law_mixed.kp T.b_law_mixed .nil pass0 (pa_cons (pe_ix ix_lH (pv 0) pe_int (fun _ _ => rfl)) (pa_cons (pe_ix ix_lH (pv 0) pe_int (fun _ _ => rfl)) pa_nil))) (pv 1)))))), ?_⟩
    walk_at "rh"
    by_cases h : 1000000000000000000 ≤ s
    · rw [if_pos h]
      exact ⟨wide_div hn hb (by decide) (by decide), q _ _ Sx.put ⟨s / n, c, d, upd_same⟩ (Int.emod_nonneg _ (by omega)) (Int.emod_lt_of_pos _ hn)⟩
    · rw [if_neg h]
      refine ⟨c, d + 1, rfl, fun r => ?_⟩
      walk_at "rd"
      exact q _ _ Sx.put ⟨s, c, d + 1, upd_same⟩ (Int.emod_nonneg _ (by omega)) (Int.emod_lt_of_pos _ hn)
theorem take_small {n : Int} (h : 0 < n) (h2 : n < 2 ^ 64) : n.natAbs < 2 ^ 8000 := Nat.lt_of_lt_of_le (by omega : n.natAbs < 2 ^ 64) (Nat.pow_le_pow_right (by decide) (by decide))
def sp_law_source (K : PySem.W.Frag) : Sp := fun vs H Q _ => ∃ c : Int, vs = [.int c] ∧ ∀ H' a, Same H H' → H a = none → Src H' a → Q (.ref a) H'
theorem ok_law_source (T : Tx K mg) : FnOk P w K mg base CX0 1 T.f_law_source T.fd_law_source ["_law_cell"] (sp_law_source K) := by
  refine T.F_law_source.ok sc_law_source (fun vs H Q E h => ?_) (fun cdv A outer s H vs Q E hr h => ?_)
  · obtain ⟨c, rfl, _⟩ := h; rfl
  · obtain ⟨c, rfl, q⟩ := h
    refine ⟨_, (pss_one (ps_ret (pe_lst (pa_cons (pv 0) (pa_cons (pv 0) (pa_cons pe_int pa_nil)))))), ?_⟩
    walk_at "rd"
    intro p hp
    exact q _ p (Same.new hp) hp ⟨_, _, _, upd_same⟩
/-- a comprehension whose elements draw -/
theorem lcr_draw {J : It} {n : Nat} {G : Hp → Prop} {Y : Nat → Hp → V → Hp → Prop} (w : Walk J n G Y) {g : TG} {te : TE} {vs : List Nat} {σ : L2.St} {H1 : Hp} {Q : VK} {a : Addr} (R : Nat → V → Prop) (hs1 : Src H1 a) (hn : n ≤ sizeLine)
    (hG : ∀ H, Sx a H1 H → G H) (hY : ∀ i x H H', Y i H x H' → Same H H')
    (hs : ∀ i x H H' (Qy : VK), i < n → Sx a H1 H → Src H' a → Y i H x H' → (∀ y H4, Sx a H' H4 → Src H4 a → R i y → Qy y H4) → g x (wipe σ vs) H' fun σ2 H2 => wipe σ2 vs = wipe σ vs ∧ te σ2 H2 Qy)
    (hd : ∀ D acc H, H1 D = none → Sx a H1 H → Src H a → acc.length = n → (∀ (i : Nat) y, acc[i]? = some y → R i y) → H D = some (.lst acc) → Q (.ref D) H) : LcR J g tYes te vs σ H1 Q := fun D hD => by
  have nDa : D ≠ a := hs1.ne hD
  refine lc_gen w (fun i acc H => Sx a H1 H ∧ Src H a ∧ acc.length = i ∧ ∀ (j : Nat) y, acc[j]? = some y → R j y) hn ⟨Sx.of (Same.new hD), hs1.same (Same.new hD), rfl, fun j y h => by simp at h⟩ (fun i acc H _ h _ => hG H h.1) (fun i acc H l h _ => ⟨fun b o nb e => ?_, h.2.1.put nDa.symm, h.2.2⟩) (fun i acc x H H' Qy hi ha h e hy hq => ?_) (fun acc H ha h e => hd D acc H hD h.1 h.2.1 ha h.2.2.2 e)
  · rw [upd_ne (ne_some e hD)]
    exact h.1 b o nb e
  · refine hs i x H H' Qy hi h.1 (h.2.1.same (hY _ _ _ _ hy)) hy fun y H4 s4 hs4 hR => hq y H4 (s4 _ _ nDa (hY _ _ _ _ hy _ _ e)) ⟨(h.1.trans (Sx.of (hY _ _ _ _ hy))).trans s4, hs4, by rw [List.length_append, h.2.2.1]; rfl, fun j z hj => ?_⟩
    by_cases hlt : j < acc.length
    · rw [List.getElem?_append_left hlt] at hj
      exact h.2.2.2 j z hj
    · rw [List.getElem?_append_right (by omega)] at hj
      cases hk : j - acc.length with
      | zero =>
        rw [hk] at hj
        have e1 : j = i := by omega
        rw [e1]
        simp only [List.getElem?_cons_zero, Option.some.injEq] at hj
        rw [← hj]; exact hR
      | succ m => rw [hk] at hj; simp at hj
theorem ints_of {acc : List V} {R : Nat → Int → Prop} (h : ∀ (i : Nat) y, acc[i]? = some y → ∃ n, y = V.int n ∧ R i n) : ∃ ns : List Int, acc = ns.map V.int ∧ ∀ (i : Nat) n, ns[i]? = some n → R i n := by
  have key : ∀ (acc : List V) (k : Nat), (∀ (i : Nat) y, acc[i]? = some y → ∃ n, y = V.int n ∧ R (i + k) n) → ∃ ns : List Int, acc = ns.map V.int ∧ ∀ (i : Nat) n, ns[i]? = some n → R (i + k) n := by
    intro acc
    induction acc with
    | nil => intro k _; exact ⟨[], rfl, fun i n h => by simp at h⟩
    | cons x r ih =>
      intro k h
      obtain ⟨n, e, hn⟩ := h 0 x rfl
      obtain ⟨ns, e2, h2⟩ := ih (k + 1) fun i y hy => by
        obtain ⟨m, e3, h3⟩ := h (i + 1) y hy
        exact ⟨m, e3, by rw [show i + (k + 1) = i + 1 + k by omega]; exact h3⟩
      refine ⟨n :: ns, by rw [e, e2]; rfl, fun i m hm => ?_⟩
      cases i with
      | zero =>
        simp only [List.getElem?_cons_zero, Option.some.injEq] at hm
        rw [← hm]; exact hn
      | succ i =>
        have := h2 i m hm
        rw [show i + (k + 1) = i + 1 + k by omega] at this
        exact this
  obtain ⟨ns, e, h2⟩ := key acc 0 (fun i y hy => h i y hy)
  exact ⟨ns, e, fun i n hn => h2 i n hn⟩
/-- a list of ints at an index that is drawn -/
theorem atI_ints {ns : List Int} {i : Int} (h0 : 0 ≤ i) (h1 : i < ns.length) : ∃ n, n ∈ ns ∧ atI (ns.map V.int) i = some (.int n) := by
  obtain ⟨v, hv, e⟩ := atI_in (xs := ns.map V.int) h0 (by rw [List.length_map]; exact h1)
  obtain ⟨n, hn, rfl⟩ := List.mem_map.mp hv
  exact ⟨n, hn, e⟩
end

/-! ### draws of k15, k17, k18 -/
section
variable {P : Program} {w : World} {K : PySem.W.Frag} {mg : Str → Option Value} {base : Heap}
def sp_law_sum (K : PySem.W.Frag) : Sp := fun vs H Q _ => ∃ (p c l : Addr) (ss ps cs : List Int), vs = [.ref p, .ref c, .ref l] ∧ H p = some (.tup (ps.map V.int)) ∧ H c = some (.tup (cs.map V.int)) ∧ H l = some (.lst (ss.map V.int)) ∧ ps.length = ss.length ∧ cs.length = ss.length ∧ Sz ss ∧
  ∀ H' f, Same H H' → H' f = some (.tup ((mv fw ps cs ss).map V.int)) → Q (.ref f) H'
theorem ok_law_sum (T : Tx K mg) : FnOk P w K mg base CX0 1 T.f_law_sum T.fd_law_sum ["_law_first", "_law_second", "_law_sizes_here"] (sp_law_sum K) := by
  refine T.F_law_sum.ok sc_law_sum (fun vs H Q E h => ?_) (fun cdv A outer s H vs Q E hr h => ?_)
  · obtain ⟨p, c, l, ss, ps, cs, rfl, _⟩ := h; rfl
  · obtain ⟨p, c, l, ss, ps, cs, rfl, hp, hc, hl, e1, e2, z, q⟩ := h
    refine ⟨_, (pss_one (ps_ret (pe_callTy tuple_H (by rfl) T.n_tuple (by decide +kernel) (pa_cons (pe_lc (own := [("_law_a", 3), ("_law_b", 4), ("_law_size", 5)]) (g := (gTupH 3 (gCons (gName 3) (gCons (gName 4) (gCons (gName 5) gNil))))) (tt := tYes) rfl sc_law_sum.nd (pi_z3H (by rfl) T.n_zip (pa_cons (pv 0) (pa_cons (pv 1) (pa_cons (pv 2) pa_nil)))) (blkOk_by (own := [("_law_a", 3), ("_law_b", 4), ("_law_size", 5)]) (N := N_law_sum) (sc := defScope d_law_sum) (by decide +kernel)) (fun _ _ _ _ _ => (pg_tupH (n := 3) rfl (pgs_cons (pg_name (i := 3) sc_law_sum.nd rfl (Or.inl rfl)) (pgs_cons (pg_name (i := 4) sc_law_sum.nd rfl (Or.inl rfl)) (pgs_cons (pg_name (i := 5) sc_law_sum.nd rfl (Or.inl rfl)) pgs_nil))))) (fun _ _ _ _ _ => pts_nil) (fun _ _ _ _ _ => (pe_op op_mod (pe_op op_add (pv 3) (pv 4)) (pv 5)))) pa_nil)))), ?_⟩
    have pos : ∀ n ∈ ss, 0 < n := fun n hn => by have := z.pos n hn; omega
    walk_at "rd"
    refine ⟨false, false, true, ps.map V.int, hp, cs.map V.int, hc, ss.map V.int, hl, by rw [List.length_map, List.length_map, e1, e2], by rw [List.length_map, List.length_map, e2], fun J W => ?_⟩
    refine lcr_map W ((mv fw ps cs ss).map V.int) (by rw [List.length_map, List.length_map, mv_len (by rw [e1, e2]) e2]) ?_ (fun H3 s3 => ⟨s3 _ _ hp, s3 _ _ hc, s3 _ _ hl⟩) (fun _ _ _ _ y => YTrip.same y) ?_ ?_
    · have h4 := z.hi
      rw [List.length_map]
      exact Nat.le_trans (by omega : ps.length ≤ 4) (by decide)
    · intro i x H3 H4 y Qy hi s3 hy hr hq
      obtain ⟨T0, x1, y1, z1, rfl, hT, rfl, h1, h2, h3⟩ := hy
      simp only [List.getElem?_map, Option.map_eq_some_iff] at hr h1 h2 h3
      obtain ⟨x2, hx2, rfl⟩ := h1
      obtain ⟨y2, hy2, rfl⟩ := h2
      obtain ⟨z2, hz2, rfl⟩ := h3
      rw [mv_get hx2 hy2 hz2] at hr
      obtain ⟨r, hr, rfl⟩ := hr
      obtain rfl := Option.some.inj hr
      walk_at "rd"
      exact ⟨pos z2 (List.mem_of_getElem? hz2), hq _ (Same.refl _)⟩
    · intro D H3 hD s3 h3
      exact ⟨D, rfl, .inl ⟨_, h3, fun f hf => q _ f (s3.trans (Same.new hf)) upd_same⟩⟩
def tms (k : Int) (ps ss : List Int) : List Int := List.zipWith (fun p s => k * p % s) ps ss
theorem tms_len {k : Int} {ps ss : List Int} (h : ps.length = ss.length) : (tms k ps ss).length = ss.length := by unfold tms; rw [List.length_zipWith, h, Nat.min_self]
def sp_law_times (K : PySem.W.Frag) : Sp := fun vs H Q _ => ∃ (k : Int) (p l : Addr) (ss ps : List Int), vs = [.int k, .ref p, .ref l] ∧ H p = some (.tup (ps.map V.int)) ∧ H l = some (.lst (ss.map V.int)) ∧ ps.length = ss.length ∧ Sz ss ∧ (∀ x ∈ ps, CMulA k x) ∧
  ∀ H' f, Same H H' → H' f = some (.tup ((tms k ps ss).map V.int)) → Q (.ref f) H'
theorem ok_law_times (T : Tx K mg) : FnOk P w K mg base CX0 1 T.f_law_times T.fd_law_times ["_law_factor", "_law_first", "_law_sizes_here"] (sp_law_times K) := by
  refine T.F_law_times.ok sc_law_times (fun vs H Q E h => ?_) (fun cdv A outer s H vs Q E hr h => ?_)
  · obtain ⟨k, p, l, ss, ps, rfl, _⟩ := h; rfl
  · obtain ⟨k, p, l, ss, ps, rfl, hp, hl, e1, z, hm, q⟩ := h
    refine ⟨_, (pss_one (ps_ret (pe_callTy tuple_H (by rfl) T.n_tuple (by decide +kernel) (pa_cons (pe_lc (own := [("_law_place", 3), ("_law_size", 4)]) (g := (gTupH 2 (gCons (gName 3) (gCons (gName 4) gNil)))) (tt := tYes) rfl sc_law_times.nd (pi_z2H (by rfl) T.n_zip (pa_cons (pv 1) (pa_cons (pv 2) pa_nil))) (blkOk_by (own := [("_law_place", 3), ("_law_size", 4)]) (N := N_law_times) (sc := defScope d_law_times) (by decide +kernel)) (fun _ _ _ _ _ => (pg_tupH (n := 2) rfl (pgs_cons (pg_name (i := 3) sc_law_times.nd rfl (Or.inl rfl)) (pgs_cons (pg_name (i := 4) sc_law_times.nd rfl (Or.inl rfl)) pgs_nil)))) (fun _ _ _ _ _ => pts_nil) (fun _ _ _ _ _ => (pe_op op_mod (pe_op op_mulA (pv 0) (pv 3)) (pv 4)))) pa_nil)))), ?_⟩
    walk_at "rd"
    refine ⟨false, true, ps.map V.int, hp, ss.map V.int, hl, by rw [List.length_map, List.length_map, e1], fun J W => ?_⟩
    refine lcr_two (p := 3) (q := 4) e1 (by have := z.hi; omega) (fun x y => k * x % y) W (fun H3 s3 => ⟨s3 _ _ hp, s3 _ _ hl⟩) (fun T0 x y H3 R hT hR => ?_) (fun x y => rfl) (fun i x y Qy H3 h1 h2 hq => ?_) fun D H3 hD s3 h3 => ?_
    · walk_at "rh"
      exact hR
    · walk_at "rd"
      have := z.pos y (List.mem_of_getElem? h2)
      exact ⟨hm x (List.mem_of_getElem? h1), by omega, hq⟩
    · exact ⟨D, rfl, .inl ⟨_, h3, fun f hf => q _ f (s3.trans (Same.new hf)) upd_same⟩⟩
def sp_law_seat (K : PySem.W.Frag) : Sp := fun vs H Q _ => ∃ (a l : Addr) (ss : List Int), vs = [.ref a, .ref l] ∧ Src H a ∧ H l = some (.lst (ss.map V.int)) ∧ l ≠ a ∧ Sz ss ∧ ∀ H' p ps, Sx a H H' → Src H' a → H p = none → H' p = some (.tup (ps.map V.int)) → Seat ss ps → Q (.ref p) H'
theorem ok_law_seat (T : Tx K mg) : FnOk P w K mg base CX0 3 T.f_law_seat T.fd_law_seat ["_law_source_here", "_law_sizes_here"] (sp_law_seat K) := by
  refine T.F_law_seat.ok sc_law_seat (fun vs H Q E h => ?_) (fun cdv A outer s H vs Q E hr h => ?_)
  · obtain ⟨a, l, ss, rfl, _⟩ := h; rfl
  · obtain ⟨a, l, ss, rfl, hs, hl, nla, z, q⟩ := h
    refine ⟨_, (pss_one (ps_ret (pe_callTy tuple_H (by rfl) T.n_tuple (by decide +kernel) (pa_cons (pe_lc (own := [("_law_size", 2)]) (g := (gName 2)) (tt := tYes) rfl sc_law_seat.nd (pi_seqH (pv 1)) (blkOk_by (own := [("_law_size", 2)]) (N := N_law_seat) (sc := defScope d_law_seat) (by decide +kernel)) (fun _ _ _ _ _ => (pg_name (i := 2) sc_law_seat.nd rfl (Or.inl rfl))) (fun _ _ _ _ _ => pts_nil) (fun _ _ _ _ _ => (pe_op op_mod (pe_op op_add (pe_op op_mulA (pe_call (ok_law_take T) (hr.mono (by decide)) (by rfl) T.g_law_take T.F_law_take.kp T.b_law_take .nil pass0 (pa_cons (pv 0) (pa_cons (pe_op op_pow pe_int pe_int) pa_nil))) (pe_op op_pow pe_int pe_int)) (pe_call (ok_law_take T) (hr.mono (by decide)) (by rfl) T.g_law_take T.F_law_take.kp T.b_law_take .nil pass0 (pa_cons (pv 0) (pa_cons (pe_op op_pow pe_int pe_int) pa_nil)))) (pv 2)))) pa_nil)))), ?_⟩
    walk_at "rh"
    intro J W
    refine lcr_draw W (fun i y => ∃ n, y = V.int n ∧ ∀ s, ss[i]? = some s → 0 ≤ n ∧ n < s) hs (Nat.le_trans z.hi (by decide)) (fun H1 s1 => s1 _ _ nla hl) (fun _ _ _ _ y => YAt.same y) ?_ ?_
    · rintro i x H1 H2 Qy hi s1 hs1 ⟨rfl, hx⟩ hq
      simp only [List.getElem?_map, Option.map_eq_some_iff] at hx
      obtain ⟨n, hn, rfl⟩ := hx
      have h1 := z.pos n (List.mem_of_getElem? hn)
      walk_at "rd"
      refine ⟨a, 1000000000000000000, rfl, hs1, by decide, take_small (by decide) (by decide), fun H3 r s3 hs3 r0 r1 => ?_⟩
      walk_at "rd"
      refine ⟨.inl (by omega), a, 1000000000, rfl, hs3, by decide, take_small (by decide) (by decide), fun H4 r4 s4 hs4 r40 r41 => ⟨r4, rfl, by omega, hq _ _ (s3.trans s4) hs4 ⟨_, rfl, fun s hs' => ?_⟩⟩⟩
      rw [hn] at hs'
      obtain rfl := Option.some.inj hs'
      exact ⟨Int.emod_nonneg _ (by omega), Int.emod_lt_of_pos _ (by omega)⟩
    · intro D acc H1 hD s1 hs1 hlen hR hD1
      obtain ⟨ps, rfl, hps⟩ := ints_of hR
      refine ⟨D, rfl, .inl ⟨_, hD1, fun p hp => ?_⟩⟩
      have hHp : H p = none := s1.free (hs1.ne hp) hp
      exact q _ p ps (s1.trans (Sx.of (Same.new hp))) (hs1.same (Same.new hp)) hHp upd_same ⟨by rw [← hlen, List.length_map], fun i p s hp hs' => hps i p hp s hs'⟩
def sp_law_sizes (K : PySem.W.Frag) : Sp := fun vs H Q _ => ∃ a : Addr, vs = [.ref a] ∧ Src H a ∧ ∀ H' l ss, Sx a H H' → Src H' a → H l = none → H' l = some (.lst (ss.map V.int)) → l ≠ a → Sz ss → Q (.ref l) H'
theorem ok_law_sizes (T : Tx K mg) : FnOk P w K mg base CX0 3 T.f_law_sizes T.fd_law_sizes ["_law_source_here"] (sp_law_sizes K) := by
  refine T.F_law_sizes.ok sc_law_sizes (fun vs H Q E h => ?_) (fun cdv A outer s H vs Q E hr h => ?_)
  · obtain ⟨a, rfl, _⟩ := h; rfl
  · obtain ⟨a, rfl, hs, q⟩ := h
    refine ⟨_, (pss_cons (ps_set (i := 1) sc_law_sizes.nd rfl (Or.inr rfl) (pe_lst (pa_cons pe_int (pa_cons pe_int (pa_cons pe_int (pa_cons pe_int (pa_cons pe_int (pa_cons pe_int (pa_cons pe_int (pa_cons pe_int (pa_cons pe_int (pa_cons pe_int (pa_cons (pe_op op_pow pe_int pe_int) (pa_cons (pe_op op_mulA pe_int (pe_op op_pow pe_int pe_int)) (pa_cons (pe_op op_add (pe_op op_pow pe_int pe_int) pe_int) (pa_cons (pe_op op_mulA (pe_op op_pow pe_int pe_int) (pe_op op_pow pe_int pe_int)) pa_nil))))))))))))))))
      (pss_one (ps_ret (pe_lc (own := [("_law_k", 2)]) (g := (gName 2)) (tt := tYes) rfl sc_law_sizes.nd (pi_range1H (by rfl) T.n_range (pa_cons (pe_op op_add pe_int (pe_call (ok_law_take T) (hr.mono (by decide)) (by rfl) T.g_law_take T.F_law_take.kp T.b_law_take .nil pass0 (pa_cons (pv 0) (pa_cons pe_int pa_nil)))) pa_nil)) (blkOk_by (own := [("_law_k", 2)]) (N := N_law_sizes) (sc := defScope d_law_sizes) (by decide +kernel)) (fun _ _ _ _ _ => (pg_name (i := 2) sc_law_sizes.nd rfl (Or.inl rfl))) (fun _ _ _ _ _ => pts_nil) (fun _ _ _ _ _ => (pe_ix ix_lH (pv 1) (pe_call (ok_law_take T) (hr.mono (by decide)) (by rfl) T.g_law_take T.F_law_take.kp T.b_law_take .nil pass0 (pa_cons (pv 0) (pa_cons pe_int pa_nil))) (fun _ _ => rfl))))))), ?_⟩
    walk_at "rd"
    refine ⟨⟨by decide, by decide, by decide⟩, ⟨by decide, by decide, by decide⟩, .inl (by decide), ⟨by decide, by decide, by decide⟩, ⟨by decide, by decide, by decide⟩, .inl (by decide), fun p hp => ?_⟩
    have npa : p ≠ a := hs.ne hp
    generalize hsm : ([V.int 3, V.int 9, V.int 15, V.int 12, V.int 5, V.int 8, V.int 45, V.int 2, V.int 1, V.int 21, V.int 717897987691852588770249, V.int 17293822569102704640, V.int 1000000000000000000000000000000000000003, V.int 794280046581] : List V) = small
    have hsm' : small = ([3, 9, 15, 12, 5, 8, 45, 2, 1, 21, 717897987691852588770249, 17293822569102704640, 1000000000000000000000000000000000000003, 794280046581] : List Int).map V.int := hsm.symm
    have sp := Same.new hp (o := .lst small)
    have fp : (upd H p (.lst small)) p = some (.lst small) := upd_same
    generalize upd H p (HO.lst small) = H1 at sp fp ⊢
    refine ⟨a, 4, rfl, hs.same sp, by decide, take_small (by decide) (by decide), fun H2 r s2 hs2 r0 r1 => ⟨r, rfl, by omega, by omega, fun J W => ?_⟩⟩
    have g2 := s2 _ _ npa fp
    refine lcr_draw W (fun i y => ∃ n, y = V.int n ∧ 1 ≤ n ∧ n < 2 ^ 200) hs2 (Nat.le_trans (by omega : (1 + r).toNat ≤ 4) (by decide)) (fun _ _ => trivial) (fun _ _ _ _ y => by rw [y.1]; exact Same.refl _) ?_ ?_
    · rintro i x H3 H4 Qy hi s3 hs3 ⟨rfl, rfl⟩ hq
      walk_at "rd"
      refine ⟨a, 14, rfl, hs3, by decide, take_small (by decide) (by decide), fun H4 r4 s4 hs4 r40 r41 => ⟨r4, rfl, small, s4 _ _ npa (s3 _ _ npa g2), ?_⟩⟩
      obtain ⟨n, hn, en⟩ := atI_ints (ns := [3, 9, 15, 12, 5, 8, 45, 2, 1, 21, 717897987691852588770249, 17293822569102704640, 1000000000000000000000000000000000000003, 794280046581]) r40 r41
      rw [hsm']
      refine ⟨_, en, hq _ _ s4 hs4 ⟨n, rfl, ?_⟩⟩
      simp only [List.mem_cons, List.mem_nil_iff, or_false] at hn
      omega
    · intro D acc H3 hD s3 hs3 hlen hR hD1
      obtain ⟨ns, rfl, hns⟩ := ints_of hR
      have hl : ns.length = (1 + r).toNat := by rw [← hlen, List.length_map]
      have s03 : Sx a H H3 := (Sx.of sp).trans (s2.trans s3)
      have nDa : D ≠ a := hs2.ne hD
      have hHD : H D = none := ((Sx.of sp).trans s2).free nDa hD
      refine q H3 D ns s03 hs3 hHD hD1 nDa ⟨by omega, by omega, fun n hn => ?_, fun n hn => ?_⟩
      · obtain ⟨i, hi, e⟩ := List.getElem_of_mem hn
        exact (hns i n (by rw [List.getElem?_eq_getElem hi, e])).1
      · obtain ⟨i, hi, e⟩ := List.getElem_of_mem hn
        obtain ⟨h1, h2⟩ := hns i n (by rw [List.getElem?_eq_getElem hi, e])
        exact Nat.lt_of_lt_of_le (by omega : n.natAbs < 2 ^ 200) (Nat.pow_le_pow_right (by decide) (by decide))
end

/-! ### k17's own check -/
section
variable {P : Program} {w : World} {K : PySem.W.Frag} {mg : Str → Option Value} {base : Heap}
theorem seat_cons {s p : Int} {ss ps : List Int} (h : Seat (s :: ss) (p :: ps)) : (0 ≤ p ∧ p < s) ∧ Seat ss ps :=
  ⟨h.ok 0 p s rfl rfl, by simpa using h.len, fun i q t hq ht => h.ok (i + 1) q t hq ht⟩
theorem Seat.cons {s p : Int} {ss ps : List Int} (h1 : 0 ≤ p) (h2 : p < s) (h : Seat ss ps) : Seat (s :: ss) (p :: ps) :=
  ⟨by simp [h.len], fun i q t hq ht => by
    cases i with
    | zero =>
      obtain rfl := Option.some.inj hq
      obtain rfl := Option.some.inj ht
      exact ⟨h1, h2⟩
    | succ i => exact h.ok i q t hq ht⟩
theorem Seat.nil : Seat [] [] := ⟨rfl, fun i q t h _ => by simp at h⟩
theorem hpl_in {p s x : Int} (h0 : 0 ≤ p) (h1 : p < s) (h : x ∈ hpl p s) : 0 ≤ x ∧ x < s := by
  unfold hpl at h
  obtain ⟨d, hd, rfl⟩ := List.mem_map.mp h
  have hm := (List.mem_filter.mp hd).1
  simp only [List.mem_cons, List.mem_nil_iff, or_false] at hm
  omega
theorem hal_seats : ∀ (ps ss : List Int) (found : List (List Int)), Seat ss ps → ∀ h ∈ (ps.zip ss).foldl halF found, ∃ f ∈ found, ∃ hs, h = f ++ hs ∧ Seat ss hs
  | [], [], found, _, h, hm => ⟨h, hm, [], by simp, Seat.nil⟩
  | [], s :: ss, found, hS, h, hm => by have := hS.len; simp at this
  | p :: ps, [], found, hS, h, hm => by have := hS.len; simp at this
  | p :: ps, s :: ss, found, hS, h, hm => by
    obtain ⟨⟨a, b⟩, hS'⟩ := seat_cons hS
    rw [List.zip_cons_cons, List.foldl_cons] at hm
    obtain ⟨f, hf, hs, rfl, h3⟩ := hal_seats ps ss _ hS' h hm
    simp only [halF, List.mem_flatMap, List.mem_map] at hf
    obtain ⟨f0, hf0, x, hx, rfl⟩ := hf
    obtain ⟨x0, x1⟩ := hpl_in a b hx
    exact ⟨f0, hf0, x :: hs, by simp, Seat.cons x0 x1 h3⟩
theorem hal_seat {ps ss : List Int} (hS : Seat ss ps) : ∀ h ∈ halI ps ss, Seat ss h := fun h hm => by
  obtain ⟨f, hf, hs, rfl, h3⟩ := hal_seats ps ss [[]] hS h hm
  rw [List.mem_singleton.mp hf]
  exact h3
theorem mv_seat {g : Int → Int → Int} : ∀ {ps cs ss : List Int}, ps.length = ss.length → cs.length = ss.length → (∀ s ∈ ss, 1 ≤ s) → Seat ss (mv g ps cs ss)
  | [], [], [], _, _, _ => .nil
  | _ :: _, _, [], h, _, _ => by simp at h
  | [], _, _ :: _, h, _, _ => by simp at h
  | _, [], _ :: _, _, h, _ => by simp at h
  | _, _ :: _, [], _, h, _ => by simp at h
  | p :: ps, c :: cs, s :: ss, h1, h2, h3 => by
    have hs := h3 s (List.mem_cons_self ..)
    exact .cons (Int.emod_nonneg _ (by omega)) (Int.emod_lt_of_pos _ (by omega)) (mv_seat (by simpa using h1) (by simpa using h2) fun t ht => h3 t (List.mem_cons_of_mem _ ht))
theorem Src.ne_of {H : Hp} {a p : Addr} {o : HO} (h : Src H a) (hp : H p = some o) (d : ∀ x y z : Int, o ≠ .lst [.int x, .int y, .int z]) : p ≠ a := fun e => by
  obtain ⟨x, y, z, h⟩ := h
  rw [e, h] at hp
  exact d x y z (Option.some.inj hp).symm
theorem TabAt.sx {C : Addr} {H H' : Hp} {a b : Addr} {ss : List Int} (h : TabAt C H b ss) (hs : Src H a) (s : Sx a H H') : TabAt C H' b ss := by
  obtain ⟨dx, t, h1, h2⟩ := h
  exact ⟨dx, t, s _ _ (hs.ne_of h1 fun _ _ _ => by simp) h1, s _ _ (hs.ne_of h2 fun _ _ _ => by simp) h2⟩
theorem noS (t : Addr) (m : Str) (e : (m == ("_sizes" : Str)) = false) : List.lookup m [(("_sizes" : Str), V.ref t)] = none := by simp [List.lookup, e]
def oddG (gs ss : List Int) : List Int := List.zipWith (fun x y => x * oddI y % y) gs ss
theorem oddG_ok {ss gs : List Int} (hs : ∀ s ∈ ss, 1 ≤ s) (hS : Seat ss gs) : Seat ss (oddG gs ss) ∧ ∀ c, c < ss.length → oddI (ss.getD c 0) ∣ (oddG gs ss).getD c 0 := by
  have key : ∀ (i : Nat) (x y : Int), gs[i]? = some x → ss[i]? = some y → (oddG gs ss)[i]? = some (x * oddI y % y) := fun i x y h1 h2 => zw_get (g := fun x y => x * oddI y % y) h1 h2
  refine ⟨⟨by unfold oddG; rw [List.length_zipWith, hS.len, Nat.min_self], fun i p s hp hs' => ?_⟩, fun c hc => ?_⟩
  · have hi : i < gs.length := by rw [hS.len]; exact (List.getElem?_eq_some_iff.mp hs').1
    rw [key i _ s (List.getElem?_eq_getElem hi) hs'] at hp
    obtain rfl := Option.some.inj hp
    have := hs s (List.mem_of_getElem? hs')
    exact ⟨Int.emod_nonneg _ (by omega), Int.emod_lt_of_pos _ (by omega)⟩
  · have hi : c < gs.length := by rw [hS.len]; exact hc
    have e := List.getElem?_eq_getElem hc
    rw [getD_getD, getD_getD, key c _ _ (List.getElem?_eq_getElem hi) e, e]
    simp only [Option.getD_some]
    have hd := oddI_dvd (hs _ (List.getElem_mem hc))
    have e4 : gs[c] * oddI ss[c] % ss[c] = gs[c] * oddI ss[c] - ss[c] * (gs[c] * oddI ss[c] / ss[c]) := by
      have := Int.emod_add_mul_ediv (gs[c] * oddI ss[c]) ss[c]
      omega
    rw [e4]
    exact Int.dvd_sub (Int.dvd_mul_left _ _) (Int.dvd_trans hd (Int.dvd_mul_right _ _))
theorem flat_one (k : Nat) : (List.replicate k [V.int 1]).flatten = (List.replicate k (1 : Int)).map V.int := by
  induction k with
  | zero => rfl
  | succ k ih => rw [List.replicate_succ, List.flatten_cons, ih, List.replicate_succ]; rfl
theorem AsT.take {H : Hp} {as : List Addr} {hs : List (List Int)} (h : AsT H as hs) (n : Nat) : AsT H (as.take n) (hs.take n) := by
  refine ⟨by rw [List.length_take, List.length_take, h.1], fun i t g h1 h2 => ?_⟩
  rw [List.getElem?_take] at h1 h2
  split at h1
  · rw [if_pos (by assumption)] at h2
    exact h.2 i t g h1 h2
  · cases h1
def wordI (ss : List Int) (gs : List (List Int)) (p : List Int) : Str := match reachI ss gs p with
  | none => "reachable"
  | some _ => "unreachable"
theorem word_at {H : Hp} {D : Addr} {ss : List Int} {gs : List (List Int)} {p : List Int} (h : RchAt H D ss gs p) : ∃ xs, H D = some (.tup (V.str (wordI ss gs p) :: xs)) := by
  unfold wordI
  rcases h with ⟨e, h1⟩ | ⟨c, u, r, e, h1, h2, h3⟩
  · rw [e]; exact ⟨_, h1⟩
  · rw [e]; exact ⟨_, h1⟩
theorem word_dec (ss : List Int) (gs : List (List Int)) (p : List Int) : decide (wordI ss gs p = Str.ofString "reachable") = (reachI ss gs p).isNone := by
  unfold wordI
  cases reachI ss gs p with
  | none => exact decide_eq_true rfl
  | some c =>
    have : ¬ (("unreachable" : Str) = Str.ofString "reachable") := by decide +kernel
    exact decide_eq_false this
structure KA (C a l b o : Addr) (H0 H : Hp) (ss ts : List Int) : Prop where
  sx : Sx a H0 H
  src : Src H a
  l : H l = some (.lst (ss.map V.int))
  b : TabAt C H b ss
  o : H o = some (.tup (ts.map V.int))
theorem KA.same {C a l b o : Addr} {H0 H H' : Hp} {ss ts : List Int} (h : KA C a l b o H0 H ss ts) (x : Same H H') : KA C a l b o H0 H' ss ts :=
  ⟨h.sx.trans (Sx.of x), h.src.same x, x _ _ h.l, h.b.same x, x _ _ h.o⟩
theorem KA.sxx {C a l b o : Addr} {H0 H H' : Hp} {ss ts : List Int} (h : KA C a l b o H0 H ss ts) (nla : l ≠ a) (x : Sx a H H') (hs : Src H' a) : KA C a l b o H0 H' ss ts :=
  ⟨h.sx.trans x, hs, x _ _ nla h.l, h.b.sx h.src x, x _ _ (h.src.ne_of h.o fun _ _ _ => by simp) h.o⟩
def MA1 (a : Addr) (H : Hp) (σ : L2.St) (H' : Hp) : Prop := ∃ l ss, σ = [some (V.ref a), some (V.ref l), none, none, none, none, none, none, none, none, none, none] ∧ Sx a H H' ∧ Src H' a ∧ H' l = some (.lst (ss.map V.int)) ∧ l ≠ a ∧ Sz ss
def MA2 (C a l : Addr) (ss : List Int) (H : Hp) (σ : L2.St) (H' : Hp) : Prop := ∃ b o ts, σ = [some (V.ref a), some (V.ref l), some (V.ref b), some (V.ref o), none, none, none, none, none, none, none, none] ∧ KA C a l b o H H' ss ts ∧ Seat ss ts
def MA3 (C a l b o : Addr) (p : Int) (ss ts : List Int) (H : Hp) (σ : L2.St) (H' : Hp) : Prop := ∃ v5, σ = [some (V.ref a), some (V.ref l), some (V.ref b), some (V.ref o), some (V.int p), v5, none, none, none, none, none, none] ∧ KA C a l b o H H' ss ts
def ML0 (C a l b o : Addr) (p : Int) (ss ts : List Int) (H : Hp) (σ : L2.St) (H' : Hp) : Prop := ∃ v5 v6 v7 v8 v9 v10 v11, σ = [some (V.ref a), some (V.ref l), some (V.ref b), some (V.ref o), some (V.int p), v5, v6, v7, v8, v9, v10, v11] ∧ KA C a l b o H H' ss ts
def ML1 (C a l b o : Addr) (p : Int) (ss ts : List Int) (i : Nat) (R : List Int → Prop) (H : Hp) (σ : L2.St) (H' : Hp) : Prop := ∃ g gs v5 v8 v9 v10 v11, σ = [some (V.ref a), some (V.ref l), some (V.ref b), some (V.ref o), some (V.int p), v5, some (V.int (i : Nat)), some (V.ref g), v8, v9, v10, v11] ∧ KA C a l b o H H' ss ts ∧ H' g = some (.tup (gs.map V.int)) ∧ Seat ss gs ∧ R gs
def ML4 (C a l b o g : Addr) (p : Int) (ss ts gs : List Int) (i : Nat) (H : Hp) (σ : L2.St) (H' : Hp) : Prop := ∃ v5 v9 v10 v11, σ = [some (V.ref a), some (V.ref l), some (V.ref b), some (V.ref o), some (V.int p), v5, some (V.int (i : Nat)), some (V.ref g), some (V.bl (decide (oddI (ordI gs ss : Nat) = 1))), v9, v10, v11] ∧ KA C a l b o H H' ss ts ∧ H' g = some (.tup (gs.map V.int))
def ML7 (C a l b o g L : Addr) (p : Int) (ss ts gs : List Int) (i : Nat) (hs : List (List Int)) (H : Hp) (σ : L2.St) (H' : Hp) : Prop := ∃ v5 v9 v10 v11, σ = [some (V.ref a), some (V.ref l), some (V.ref b), some (V.ref o), some (V.int p), v5, some (V.int (i : Nat)), some (V.ref g), some (V.bl (decide (oddI (ordI gs ss : Nat) = 1))), v9, v10, v11] ∧ KA C a l b o H H' ss ts ∧ LstT H' L hs
def ML8 (C a l b o g L u : Addr) (p : Int) (ss ts gs : List Int) (i : Nat) (bs : List Addr) (hs : List (List Int)) (h : List Int) (w : Str) (H : Hp) (σ : L2.St) (H' : Hp) : Prop := ∃ v5 v11, σ = [some (V.ref a), some (V.ref l), some (V.ref b), some (V.ref o), some (V.int p), v5, some (V.int (i : Nat)), some (V.ref g), some (V.bl (decide (oddI (ordI gs ss : Nat) = 1))), some (V.ref u), some (V.str w), v11] ∧ KA C a l b o H H' ss ts ∧ H' L = some (.lst (bs.map V.ref)) ∧ AsT H' bs hs ∧ H' u = some (.tup (h.map V.int))
def sp_law_check (K : PySem.W.Frag) : Sp := fun vs H Q _ => ∃ (a : Addr), vs = [.ref a] ∧ Src H a ∧ ∀ H', Sx a H H' → Src H' a → Q (.bl true) H'
theorem ok_law_check (T : Tx K mg) : FnOk P w K mg base CX0 5 T.f_law_check T.fd_law_check ["_law_source_here"] (sp_law_check K) := by
  refine T.F_law_check.ok sc_law_check (fun vs H Q E h => ?_) (fun cdv A outer s H vs Q E hr h => ?_)
  · obtain ⟨a, rfl, _⟩ := h; rfl
  · obtain ⟨a, rfl, hs, q⟩ := h
    refine ⟨_, (C8.pss_cut (ps_set (i := 1) sc_law_check.nd rfl (Or.inl rfl) (pe_call (ok_law_sizes T) (hr.mono (by decide)) (by rfl) T.g_law_sizes T.F_law_sizes.kp T.b_law_sizes .nil pass0 (pa_cons (pv 0) pa_nil)))
      (C8.pss_cut (ps_par (i := 2) (j := 3) (by rfl) sc_law_check.nd rfl rfl (by decide) rfl rfl (pa_cons (pe_make T.M_Table (ok_Table_init T) (hr.mono (by decide)) (by rfl) T.g_Table T.b_Table_init .nil pass0 (pa_cons (pv 1) pa_nil)) (pa_cons (pe_call (ok_law_seat T) (hr.mono (by decide)) (by rfl) T.g_law_seat T.F_law_seat.kp T.b_law_seat .nil pass0 (pa_cons (pv 0) (pa_cons (pv 1) pa_nil))) pa_nil)) (by rfl))
      (C8.pss_cut (ps_set (i := 4) sc_law_check.nd rfl (Or.inl rfl) pe_int)
      (C8.pss_cut (ps_for PassesOwn.never rfl (pi_seqH (pv 1)) (pg_name (i := 5) sc_law_check.nd rfl (Or.inl rfl))
        (pss_one (ps_set (i := 4) sc_law_check.nd rfl (Or.inl rfl) (pe_op op_mulA (pv 4) (pe_call (ok_law_odd_part T) (hr.mono (by decide)) (by rfl) T.g_law_odd_part T.F_law_odd_part.kp T.b_law_odd_part .nil pass0 (pa_cons (pv 5) pa_nil))))))
      (C8.pss_cut (ps_if (pt_cmpR op_ne (pe_call (ok_coset_count T) (hr.mono (by decide)) (by rfl) T.g_coset_count T.F_coset_count.kp T.b_coset_count .nil pass0 (pa_cons (pv 2) (pa_cons (pe_lst (pa_cons (pv 3) pa_nil)) pa_nil))) (pv 4) (nomark _)) (pss_one (ps_ret pe_bl)) pss_nil)
      (C8.pss_cut (ps_for PassesOwn.never rfl (pi_range1H (by rfl) T.n_range (pa_cons pe_int pa_nil)) (pg_name (i := 6) sc_law_check.nd rfl (Or.inl rfl))
        (C8.pss_cut (ps_set (i := 7) sc_law_check.nd rfl (Or.inl rfl) (pe_call (ok_law_seat T) (hr.mono (by decide)) (by rfl) T.g_law_seat T.F_law_seat.kp T.b_law_seat .nil pass0 (pa_cons (pv 0) (pa_cons (pv 1) pa_nil))))
        (C8.pss_cut (ps_if (pt_cmpR op_gt (pv 6) pe_int (nomark _)) (pss_one (ps_set (i := 7) sc_law_check.nd rfl (Or.inl rfl) (pe_callTy tuple_H (by rfl) T.n_tuple (by decide +kernel) (pa_cons (pe_lc (own := [("_law_place", 11), ("_law_size", 5)]) (g := (gTupH 2 (gCons (gName 11) (gCons (gName 5) gNil)))) (tt := tYes) rfl sc_law_check.nd (pi_z2H (by rfl) T.n_zip (pa_cons (pv 7) (pa_cons (pv 1) pa_nil))) (blkOk_by (own := [("_law_place", 11), ("_law_size", 5)]) (N := N_law_check) (sc := defScope d_law_check) (by decide +kernel)) (fun _ _ _ _ _ => (pg_tupH (n := 2) rfl (pgs_cons (pg_name (i := 11) sc_law_check.nd rfl (Or.inl rfl)) (pgs_cons (pg_name (i := 5) sc_law_check.nd rfl (Or.inl rfl)) pgs_nil)))) (fun _ _ _ _ _ => pts_nil) (fun _ _ _ _ _ => (pe_op op_mod (pe_op op_mulA (pv 11) (pe_call (ok_law_odd_part T) (hr.mono (by decide)) (by rfl) T.g_law_odd_part T.F_law_odd_part.kp T.b_law_odd_part .nil pass0 (pa_cons (pv 5) pa_nil))) (pv 5)))) pa_nil)))) pss_nil)
        (C8.pss_cut (ps_if (pt_cmpR op_eq (pv 6) pe_int (nomark _)) (pss_one (ps_set (i := 7) sc_law_check.nd rfl (Or.inl rfl) (pe_call (ok_law_sum T) (hr.mono (by decide)) (by rfl) T.g_law_sum T.F_law_sum.kp T.b_law_sum .nil pass0 (pa_cons (pv 7) (pa_cons (pe_call (ok_law_times T) (hr.mono (by decide)) (by rfl) T.g_law_times T.F_law_times.kp T.b_law_times .nil pass0 (pa_cons (pe_op op_fdivW (pe_call (ok_law_odd_part T) (hr.mono (by decide)) (by rfl) T.g_law_odd_part T.F_law_odd_part.kp T.b_law_odd_part .nil pass0 (pa_cons (pe_ix ix_lH (pv 1) pe_int (fun _ _ => rfl)) pa_nil)) pe_int) (pa_cons (pe_op op_repA (pe_tup (pa_cons pe_int pa_nil)) (pe_callB len_H (by rfl) T.n_len PySem.boot_len (pa_cons (pv 1) pa_nil))) (pa_cons (pv 1) pa_nil)))) (pa_cons (pv 1) pa_nil)))))) pss_nil)
        (C8.pss_cut (ps_set (i := 8) sc_law_check.nd rfl (Or.inl rfl) (pe_cmpR op_eq (pe_call (ok_law_odd_part T) (hr.mono (by decide)) (by rfl) T.g_law_odd_part T.F_law_odd_part.kp T.b_law_odd_part .nil pass0 (pa_cons (pe_meth (pv 2) T.cl_Table T.m_Table_order (ok_Table_order T) (hr.mono (by decide)) T.b_Table_order .nil pass0 (pa_cons (pv 7) pa_nil)) pa_nil)) pe_int (nomark _)))
        (C8.pss_cut (ps_if (pt_cmpR op_ne (pe_cmpR (op_eqDK (K := K) rfl hr.units) (pe_call (ok_reach T) (hr.mono (by decide)) (by rfl) T.g_reach T.F_reach.kp T.b_reach .nil pass0 (pa_cons (pv 2) (pa_cons (pe_lst (pa_cons (pv 3) pa_nil)) (pa_cons (pe_call (ok_law_sum T) (hr.mono (by decide)) (by rfl) T.g_law_sum T.F_law_sum.kp T.b_law_sum .nil pass0 (pa_cons (pv 3) (pa_cons (pv 7) (pa_cons (pv 1) pa_nil)))) pa_nil)))) (pe_tup (pa_cons pe_str pa_nil)) (nomark _)) (pv 8) (nomark _)) (pss_one (ps_ret pe_bl)) pss_nil)
        (C8.pss_cut (ps_if (PW.pt (pw_and (pt_cmpR op_inH (pv 6) (pe_tup (pa_cons pe_int (pa_cons pe_int pa_nil))) rfl) (pw_and1 (pt_not (pt_val (pv 8)))))) (pss_one (ps_ret pe_bl)) pss_nil)
        (pss_one (ps_for PassesOwn.never rfl (pi_seqH (pe_slice sl_list (pe_meth (pv 2) T.cl_Table T.m_Table_halves (ok_Table_halves T) (hr.mono (by decide)) T.b_Table_halves .nil pass0 (pa_cons (pv 7) pa_nil)) po_none (po_some pe_int))) (pg_name (i := 9) sc_law_check.nd rfl (Or.inl rfl))
          (C8.pss_cut (ps_set (i := 10) sc_law_check.nd rfl (Or.inl rfl) (pe_ix ix_tH (pe_call (ok_reach T) (hr.mono (by decide)) (by rfl) T.g_reach T.F_reach.kp T.b_reach .nil pass0 (pa_cons (pv 2) (pa_cons (pe_tup (pa_cons (pv 3) pa_nil)) (pa_cons (pe_call (ok_law_sum T) (hr.mono (by decide)) (by rfl) T.g_law_sum T.F_law_sum.kp T.b_law_sum .nil pass0 (pa_cons (pv 3) (pa_cons (pv 9) (pa_cons (pv 1) pa_nil)))) pa_nil)))) pe_int (fun _ _ => rfl)))
          (pss_one (ps_if (pt_cmpR op_ne (pe_cmpR op_eq (pv 10) pe_str (nomark _)) (pe_cmpR op_eq (pe_call (ok_law_odd_part T) (hr.mono (by decide)) (by rfl) T.g_law_odd_part T.F_law_odd_part.kp T.b_law_odd_part .nil pass0 (pa_cons (pe_meth (pv 2) T.cl_Table T.m_Table_order (ok_Table_order T) (hr.mono (by decide)) T.b_Table_order .nil pass0 (pa_cons (pv 9) pa_nil)) pa_nil)) pe_int (nomark _)) (nomark _)) (pss_one (ps_ret pe_bl)) pss_nil))))))))))))
      (pss_one (ps_ret pe_bl)))))))), ?_⟩
    refine ⟨MA1 a H, ?_, ?_⟩
    · walk_at "rd"
      exact ⟨a, rfl, hs, fun H1 l ss s1 hs1 hHl hl nla z => ⟨l, ss, rfl, s1, hs1, hl, nla, z⟩⟩
    rintro σ1 H1 ⟨l, ss, rfl, s1, hs1, hl, nla, z⟩
    refine ⟨MA2 T.c_Table a l ss H, ?_, ?_⟩
    · walk_at "rd"
      intro x dx hx hdx hne
      have nxa : x ≠ a := hs1.ne hx
      have s3 : Same H1 (upd (upd H1 dx (.own x)) x (.ins T.c_Table dx [])) := (Same.new hdx).trans (Same.new (by rw [upd_ne hne.symm]; exact hx))
      have f3 : (upd (upd H1 dx (.own x)) x (.ins T.c_Table dx [])) x = some (.ins T.c_Table dx []) := upd_same
      generalize upd (upd H1 dx (HO.own x)) x (HO.ins T.c_Table dx []) = H3 at s3 f3 ⊢
      have hHx : H x = none := s1.free nxa hx
      have nlx : l ≠ x := ne_two (s3 _ _ hl) f3 (by simp)
      refine ⟨x, dx, .ref l, l, true, ss, rfl, f3, rfl, s3 _ _ hl, z.lo, z.hi, z.pos, fun H4 t s4 h4 ht => ⟨rfl, ?_⟩⟩
      have hl4 := s4 _ _ nlx (s3 _ _ hl)
      have hs4 : Src H4 a := by
        obtain ⟨u1, u2, u3, hu⟩ := hs1.same s3
        exact ⟨u1, u2, u3, s4 _ _ nxa.symm hu⟩
      have sx4 : Sx a H H4 := fun b' o nb hb' => s4 _ _ (ne_some hb' hHx) (s3 _ _ (s1 _ _ nb hb'))
      have hT4 : TabAt T.c_Table H4 x ss := ⟨dx, t, h4, ht⟩
      refine ⟨a, l, ss, rfl, hs4, hl4, nla, z, fun H5 o ts s5 hs5 hn ho hS => ?_⟩
      exact ⟨x, o, ts, rfl, ⟨sx4.trans s5, hs5, s5 _ _ nla hl4, hT4.sx hs4 s5, ho⟩, hS⟩
    rintro σ2 H2 ⟨b, o, ts, rfl, k2, hS⟩
    refine ⟨MA3 T.c_Table a l b o 1 ss ts H, ?_, ?_⟩
    · walk_at "rd"
      exact ⟨none, rfl, k2⟩
    rintro σ3 H3 ⟨v5, rfl, k3⟩
    refine ⟨MA3 T.c_Table a l b o (prodI (oddsI ss)) ss ts H, ?_, ?_⟩
    · walk_at "rd"
      refine .inl ⟨_, k3.l, fun J W => ?_⟩
      refine forr W (fun i σ H' => MA3 T.c_Table a l b o (prodI ((oddsI ss).take i)) ss ts H σ H') ⟨v5, rfl, k3⟩ (fun i σ H' _ h => by obtain ⟨_, _, h⟩ := h; exact h.l) ?_ ?_
      · rintro i x σ4 H4o H4 hi ⟨v5, rfl, k4⟩ ⟨rfl, hx⟩
        simp only [List.getElem?_map, Option.map_eq_some_iff] at hx
        obtain ⟨n, hn, rfl⟩ := hx
        have ho : (oddsI ss)[i]? = some (oddI n) := by unfold oddsI; rw [List.getElem?_map, hn]; rfl
        walk_at "rd"
        refine ⟨n, rfl, z.pos n (List.mem_of_getElem? hn), _, rfl, ?_, some (V.int n), ?_, k4⟩
        · have h1 := prodI_small (B := 1000) (ss := (oddsI ss).take i) fun n hn => odds_bnd z.bits n (List.mem_of_mem_take hn)
          have h2 := odds_bnd z.bits _ (List.mem_of_getElem? ho)
          have h3 : ((oddsI ss).take i).length ≤ 4 := Nat.le_trans (by rw [List.length_take, odds_len]; omega) z.hi
          exact .inr (.inr (wide_mul h1 h2 (by omega) (by omega) (by omega)))
        · rw [prodI_take ho]
      · rintro σ4 H4 ⟨v5, rfl, k4⟩
        refine ⟨v5, ?_, k4⟩
        rw [List.length_map, ← odds_len (ss := ss), List.take_length]
    rintro σ4 H4 ⟨v5, rfl, k4⟩
    have hTg : Tgts ss [ts] := ⟨by simp, by simp, by simp, fun g hg => by rw [List.mem_singleton.mp hg]; exact hS⟩
    refine ⟨MA3 T.c_Table a l b o (prodI (oddsI ss)) ss ts H, ?_, ?_⟩
    · walk_at "rd"
      intro p hp
      have sp := Same.new hp (o := .lst [V.ref o])
      refine ⟨true, b, p, ss, [ts], rfl, k4.b.same sp, ⟨[o], upd_same, AsT.nil.snoc (sp _ _ k4.o)⟩, hTg, z, fun H5 s5 => ⟨rfl, ?_⟩⟩
      rw [coset_single, if_neg (fun h => h rfl)]
      exact ⟨v5, rfl, (k4.same sp).same s5⟩
    rintro σ5 H5 ⟨v5, rfl, k5⟩
    generalize prodI (oddsI ss) = P0
    refine ⟨ML0 T.c_Table a l b o P0 ss ts H, ?_, ?_⟩
    · walk_at "rd"
      intro J W
      refine forr W (fun i σ H' => ML0 T.c_Table a l b o P0 ss ts H σ H') ⟨_, _, _, _, _, _, _, rfl, k5⟩ (fun _ _ _ _ _ => trivial) ?_ ?_
      · rintro i x σ6 H6o H6 hi ⟨v5, v6, v7, v8, v9, v10, v11, rfl, k6⟩ ⟨rfl, rfl⟩
        refine ⟨ML1 T.c_Table a l b o P0 ss ts i (fun _ => True) H, ?_, ?_⟩
        · walk_at "rd"
          refine ⟨a, l, ss, rfl, k6.src, k6.l, nla, z, fun H7 g gs s7 hs7 hn hg hSg => ?_⟩
          exact ⟨g, gs, _, _, _, _, _, rfl, k6.sxx nla s7 hs7, hg, hSg, trivial⟩
        rintro σ7 H7 ⟨g, gs, v5, v8, v9, v10, v11, rfl, k7, hg7, hSg, _⟩
        refine ⟨ML1 T.c_Table a l b o P0 ss ts i (fun gs => 0 < i → ∀ c, c < ss.length → oddI (ss.getD c 0) ∣ gs.getD c 0) H, ?_, ?_⟩
        · walk_at "rd"
          by_cases h0 : (0 : Int) < (i : Nat)
          · rw [if_pos h0]
            refine ⟨false, true, gs.map V.int, hg7, ss.map V.int, k7.l, by rw [List.length_map, List.length_map, hSg.len], fun J W => ?_⟩
            refine lcr_two (p := 11) (q := 5) hSg.len (by rw [hSg.len]; have := z.hi; omega) (fun x y => x * oddI y % y) W (fun H3 s3 => ⟨s3 _ _ hg7, s3 _ _ k7.l⟩) (fun T0 x y H3 R hT hR => ?_) (fun x y => rfl) (fun j x y Qy H3 h1 h2 hq => ?_) fun D H3 hD s3 h3 => ?_
            · walk_at "rh"
              exact hR
            · walk_at "rd"
              have hy := z.pos y (List.mem_of_getElem? h2)
              have hyb := z.bits y (List.mem_of_getElem? h2)
              obtain ⟨x0, x1⟩ := hSg.ok j x y h1 h2
              have hol := Int.le_of_dvd (by omega) (oddI_dvd hy)
              have hop := oddI_pos hy
              exact ⟨y, rfl, hy, _, rfl, .inr (.inr (wide_mul (a := 1000) (b := 1000) (by omega) (by omega) (by decide) (by decide) (by decide))), by omega, hq⟩
            · obtain ⟨a1, a2⟩ := oddG_ok z.pos hSg
              exact ⟨D, rfl, .inl ⟨_, h3, fun u hu => ⟨u, oddG gs ss, _, _, _, _, _, rfl, (k7.same s3).same (Same.new hu), upd_same, a1, fun _ => a2⟩⟩⟩
          · rw [if_neg h0]
            exact ⟨g, gs, _, _, _, _, _, rfl, k7, hg7, hSg, fun h => absurd h (by omega)⟩
        rintro σ8 H8 ⟨g, gs, v5, v8, v9, v10, v11, rfl, k8, hg8, hSg, hR⟩
        refine ⟨ML1 T.c_Table a l b o P0 ss ts i (fun gs => 0 < i → i < 3 → ∀ c, c < ss.length → oddI (ss.getD c 0) ∣ gs.getD c 0) H, ?_, ?_⟩
        · walk_at "rd"
          by_cases h0 : ((i : Nat) : Int) = 3
          · rw [if_pos h0]
            obtain ⟨s0, r, hss⟩ : ∃ s0 r, ss = s0 :: r := by
              cases e : ss with
              | nil => have := z.lo; rw [e] at this; simp at this
              | cons s0 r => exact ⟨s0, r, rfl⟩
            refine ⟨_, k8.l, V.int s0, by rw [hss]; exact atI_0, s0, rfl, z.pos s0 (by rw [hss]; exact List.mem_cons_self ..), _, rfl, fun p hp => ?_⟩
            have sp := Same.new hp (o := .tup [V.int 1])
            have hn4 := z.hi
            have hn1 := z.lo
            refine .inl ⟨_, sp _ _ k8.l, p, ss.length, [V.int 1], rfl, by rw [List.length_map], upd_same, by simp, hn1, by omega, by simp, fun p2 H9 s9 f9 => ?_⟩
            rw [flat_one] at f9
            refine ⟨_, p2, l, ss, List.replicate ss.length 1, rfl, f9, s9 _ _ (sp _ _ k8.l), by simp, z, fun x hx => ?_, fun H10 f s10 hf => ?_⟩
            · rw [(List.mem_replicate.mp hx).2]
              exact .inr (.inl (by decide))
            have s810 := (sp.trans s9).trans s10
            have htl : (tms (oddI s0 / 3) (List.replicate ss.length 1) ss).length = ss.length := tms_len (by simp)
            refine ⟨g, f, l, ss, gs, _, rfl, s810 _ _ hg8, hf, s810 _ _ k8.l, hSg.len, htl, z, fun H11 u s11 hu => ?_⟩
            exact ⟨u, _, _, _, _, _, _, rfl, (k8.same s810).same s11, hu, mv_seat hSg.len htl z.pos, fun _ h => absurd h (by omega)⟩
          · rw [if_neg h0]
            exact ⟨g, gs, _, _, _, _, _, rfl, k8, hg8, hSg, fun h _ => hR h⟩
        rintro σ9 H9 ⟨g, gs, v5, v8, v9, v10, v11, rfl, k9, hg9, hSg, hR⟩
        have hpos := ordI_pos (ps := gs) z.pos
        refine ⟨ML4 T.c_Table a l b o g P0 ss ts gs i H, ?_, ?_⟩
        · walk_at "rd"
          obtain ⟨dx, t, h1, h2⟩ := id k9.b
          refine ⟨dx, _, h1, noS _ _ (by decide +kernel), b, g, ss, gs, rfl, k9.b, z, hg9, hSg, fun H10 s10 => ⟨_, rfl, by omega, rfl, v5, v9, v10, v11, ?_, k9.same s10, s10 _ _ hg9⟩⟩
          simp
        rintro σ10 H10 ⟨v5, v9, v10, v11, rfl, k10, hg10⟩
        refine ⟨ML4 T.c_Table a l b o g P0 ss ts gs i H, ?_, ?_⟩
        · walk_at "rd"
          intro p hp
          have sp := Same.new hp (o := .lst [V.ref o])
          refine ⟨o, g, l, ss, ts, gs, rfl, sp _ _ k10.o, sp _ _ hg10, sp _ _ k10.l, hS.len, hSg.len, z, fun H11 f s11 hf => ?_⟩
          have s1011 := sp.trans s11
          refine ⟨true, b, p, f, ss, [ts], mv fw ts gs ss, rfl, k10.b.same s1011, ⟨[o], s11 _ _ upd_same, AsT.nil.snoc (s1011 _ _ k10.o)⟩, hTg, z, hf, mv_seat hS.len hSg.len z.pos, fun H12 D s12 hD => fun p2 hp2 => ?_⟩
          have sp2 := Same.new hp2 (o := .tup [V.str (Str.ofString "reachable")])
          refine found_eq (hD.same sp2) upd_same ⟨rfl, ?_⟩
          rw [reach_order z.pos (odds_pos z.pos) hS.len hSg.len, if_neg (fun h => h rfl)]
          have sall := (s1011.trans s12).trans sp2
          exact ⟨v5, v9, v10, v11, rfl, k10.same sall, sall _ _ hg10⟩
        rintro σ11 H11 ⟨v5, v9, v10, v11, rfl, k11, hg11⟩
        refine ⟨ML4 T.c_Table a l b o g P0 ss ts gs i H, ?_, ?_⟩
        · walk_at "rd"
          intro p hp
          have sp := Same.new hp (o := .tup [V.int 1, V.int 2])
          refine ⟨rfl, rfl, ?_⟩
          have ein : inV (V.int (i : Nat)) [V.int 1, V.int 2] = decide (((i : Nat) : Int) ∈ ([1, 2] : List Int)) := inV_ints _ [1, 2]
          rw [ein]
          by_cases hin : ((i : Nat) : Int) ∈ ([1, 2] : List Int)
          · rw [if_pos (decide_eq_true hin)]
            simp only [List.mem_cons, List.mem_nil_iff, or_false] at hin
            have h1 := (ord_pow hSg.len z.pos).mpr (hR (by omega) (by omega))
            rw [if_neg (fun h => h h1)]
            exact ⟨v5, v9, v10, v11, rfl, k11.same sp, sp _ _ hg11⟩
          · rw [decide_eq_false hin, if_neg (by decide)]
            exact ⟨v5, v9, v10, v11, rfl, k11.same sp, sp _ _ hg11⟩
        rintro σ12 H12 ⟨v5, v9, v10, v11, rfl, k12, hg12⟩
        walk_at "rd"
        obtain ⟨dx, t, h1, h2⟩ := id k12.b
        refine ⟨dx, _, h1, noS _ _ (by decide +kernel), b, g, ss, gs, rfl, k12.b, z, hg12, hSg, fun H13 L s13 hnL hL => ?_⟩
        obtain ⟨as, hLa, hA⟩ := hL
        refine ⟨L, rfl, _, .inl (.inl hLa), fun p hp J W => ?_⟩
        have ei : cutV (as.map V.ref) none (some 3) = (as.take 3).map V.ref := by
          have e := cut_front (as.map V.ref) 3
          rw [show ((3 : Nat) : Int) = 3 by rfl] at e
          rw [e, List.map_take]
        rw [ei] at W ⊢
        have sp := Same.new hp (o := .lst ((as.take 3).map V.ref))
        have fp : (upd H13 p (.lst ((as.take 3).map V.ref))) p = some (.lst ((as.take 3).map V.ref)) := upd_same
        have k13 := (k12.same s13).same sp
        have hA3 := (AsT.take hA 3).same sp
        have hseats : ∀ h ∈ (halI gs ss).take 3, Seat ss h := fun h hm => hal_seat hSg h (List.mem_of_mem_take hm)
        generalize upd H13 p (HO.lst ((as.take 3).map V.ref)) = H14 at fp k13 hA3 ⊢
        generalize (halI gs ss).take 3 = hs at hA3 hseats
        generalize as.take 3 = bs at W fp hA3 ⊢
        refine forr W (fun j σ H' => ML7 T.c_Table a l b o g p P0 ss ts gs i hs H σ H' ∧ H' p = some (.lst (bs.map V.ref)) ∧ AsT H' bs hs) ⟨⟨v5, v9, v10, v11, rfl, k13, bs, fp, hA3⟩, fp, hA3⟩ (fun j σ H' _ h => h.2.1) ?_ ?_
        · rintro j x σ14 H15o H15 hj ⟨⟨v5, v9, v10, v11, rfl, k15, hL15⟩, fp15, hA15⟩ ⟨rfl, hx⟩
          rw [List.getElem?_map, Option.map_eq_some_iff] at hx
          obtain ⟨u, hu, rfl⟩ := hx
          rw [List.length_map, hA15.1] at hj
          have hh := List.getElem?_eq_getElem hj
          have hu15 := hA15.2 j u _ hu hh
          have hSh := hseats _ (List.getElem_mem hj)
          generalize hs[j] = h at hu15 hSh
          refine ⟨ML8 T.c_Table a l b o g p u P0 ss ts gs i bs hs h (wordI ss [ts] (mv fw ts h ss)) H, ?_, ?_⟩
          · walk_at "rd"
            intro p1 hp1
            have sp1 := Same.new hp1 (o := .tup [V.ref o])
            refine ⟨o, u, l, ss, ts, h, rfl, sp1 _ _ k15.o, sp1 _ _ hu15, sp1 _ _ k15.l, hS.len, hSh.len, z, fun H16 f s16 hf => ?_⟩
            have s1516 := sp1.trans s16
            refine ⟨false, b, p1, f, ss, [ts], mv fw ts h ss, rfl, k15.b.same s1516, ⟨[o], s16 _ _ upd_same, AsT.nil.snoc (s1516 _ _ k15.o)⟩, hTg, z, hf, mv_seat hS.len hSh.len z.pos, fun H17 D s17 hD => ?_⟩
            obtain ⟨xs, hxs⟩ := word_at hD
            have sall := s1516.trans s17
            exact ⟨D, rfl, _, hxs, _, atI_0, v5, v11, rfl, k15.same sall, sall _ _ fp15, hA15.same sall, sall _ _ hu15⟩
          rintro σ16 H16 ⟨v5, v11, rfl, k16, fp16, hA16, hu16⟩
          walk_at "rd"
          obtain ⟨dx, t, h1, h2⟩ := id k16.b
          have hpos2 := ordI_pos (ps := h) z.pos
          refine ⟨dx, _, h1, noS _ _ (by decide +kernel), b, u, ss, h, rfl, k16.b, z, hu16, hSh, fun H17 s17 => ⟨_, rfl, by omega, rfl, ?_⟩⟩
          rw [word_dec, reach_order z.pos (odds_pos z.pos) hS.len hSh.len]
          have ed : decide (V.int (oddI (ordI h ss : Nat)) = V.int 1) = decide (oddI (ordI h ss : Nat) = 1) := by simp
          rw [ed, if_neg (fun h => h rfl)]
          exact ⟨⟨v5, _, _, v11, rfl, k16.same s17, bs, s17 _ _ fp16, hA16.same s17⟩, s17 _ _ fp16, hA16.same s17⟩
        · rintro σ14 H15 ⟨⟨v5, v9, v10, v11, rfl, k15, _⟩, _, _⟩
          exact ⟨_, _, _, _, _, _, _, rfl, k15⟩
      · rintro σ6 H6 h
        exact h
    rintro σ6 H6 ⟨v5, v6, v7, v8, v9, v10, v11, rfl, k6⟩
    walk_at "rd"
    exact q _ k6.sx k6.src
end

/-! ### the law: one check a cell -/
section
variable {P : Program} {w : World} {K : PySem.W.Frag} {mg : Str → Option Value} {base : Heap}
def sp_law (K : PySem.W.Frag) : Sp := fun vs H Q _ => ∃ (a : Addr) (ns : List Int), vs = [.ref a] ∧ SqL K H a (ns.map V.int) ∧ ns.length ≤ 63 ∧ (∀ z ∈ ns, Builtin.Int.intBits z ≤ 1048576) ∧ ∀ H', Q (.bl true) H'
theorem ok_law (T : Tx K mg) : FnOk P w K mg base CX0 6 T.f_law T.fd_law ["_law_script"] (sp_law K) := by
  refine T.F_law.ok sc_law (fun vs H Q E h => ?_) (fun cdv A outer s H vs Q E hr h => ?_)
  · obtain ⟨a, ns, rfl, _⟩ := h; rfl
  · obtain ⟨a, ns, rfl, hS, hn, hbits, q⟩ := h
    refine ⟨_, (pss_cons (ps_for PassesOwn.never rfl (pi_seqH (pe_slice sl_list (pe_op op_catS (pv 0) (pe_lst (pa_cons pe_int pa_nil))) po_none (po_some pe_int))) (pg_name (i := 1) sc_law.nd rfl (Or.inl rfl))
        (pss_one (ps_if (pt_not (pt_val (pe_call (ok_law_check T) (hr.mono (by decide)) (by rfl) T.g_law_check T.F_law_check.kp T.b_law_check .nil pass0 (pa_cons (pe_call (ok_law_source T) (hr.mono (by decide)) (by rfl) T.g_law_source T.F_law_source.kp T.b_law_source .nil pass0 (pa_cons (pv 1) pa_nil)) pa_nil)))) (pss_one (ps_ret pe_bl)) pss_nil)))
      (pss_one (ps_ret pe_bl))), ?_⟩
    walk_at "rd"
    intro p hp
    have f1 : (upd H p (.lst [V.int 0])) p = some (.lst [V.int 0]) := upd_same
    have s1 := Same.new hp (o := .lst [V.int 0])
    generalize upd H p (HO.lst [V.int 0]) = H1 at s1 f1 ⊢
    refine ⟨_, s1.seq hS, _, .inl (.inl f1), ?_, fun p1 hp1 => ⟨_, .inl (.inl upd_same), fun p2 hp2 J W => ?_⟩⟩
    · rw [List.length_map]
      exact Nat.le_trans (by simp; omega : ns.length + [V.int 0].length ≤ 64) (by decide)
    generalize hH2 : upd H1 p1 (HO.lst (ns.map V.int ++ [V.int 0])) = H2 at hp2 ⊢
    have ei : cutV (ns.map V.int ++ [V.int 0]) none (some 4) = ((ns ++ [0]).take 4).map V.int := by
      have e := cut_front (ns.map V.int ++ [V.int 0]) 4
      rw [show ((4 : Nat) : Int) = 4 by rfl] at e
      rw [e, List.map_take, List.map_append]
      rfl
    rw [ei] at W ⊢
    generalize ((ns ++ [0]).take 4) = ms at W ⊢
    have f3 : (upd H2 p2 (.lst (ms.map V.int))) p2 = some (.lst (ms.map V.int)) := upd_same
    generalize upd H2 p2 (HO.lst (ms.map V.int)) = H3 at f3 ⊢
    refine forr W (fun i σ H' => ∃ v, σ = [some (V.ref a), v] ∧ H' p2 = some (.lst (ms.map V.int))) ⟨none, rfl, f3⟩ (fun _ _ _ _ h => by obtain ⟨_, _, h⟩ := h; exact h) ?_ ?_
    · rintro i x σ H4 H4' hi ⟨v, rfl, h4⟩ ⟨rfl, hx⟩
      simp only [List.getElem?_map, Option.map_eq_some_iff] at hx
      obtain ⟨n, hn, rfl⟩ := hx
      walk_at "rd"
      refine ⟨n, rfl, fun H5 c s5 hc hsrc => ?_⟩
      walk_at "rd"
      refine ⟨c, rfl, hsrc, fun H6 s6 hs6 => ?_⟩
      walk_at "rd"
      exact s6 _ _ (ne_some h4 hc) (s5 _ _ h4)
    · rintro σ H4 ⟨v, rfl, h4⟩
      walk_at "rd"
      exact q _
end

theorem kit_self (K : PySem.W.Frag) (C : Addr) : PySem.W.kitOne K (.ref C) (.ref C) = some true := by
  unfold PySem.W.kitOne
  rw [if_pos]
  exact beq_self_eq_true _
theorem all_mk {P : Program} {w : World} {K : PySem.W.Frag} {h : Heap} {mg : Str → Option Value} {fa : Addr} (X : K.In h) (G : h.Ns mainGlobals mg) (hfa : mg "law" = some (.ref fa))
    {c_Table : Addr} {f_is_integer : Addr} {od_is_integer an_is_integer : Option Addr} {sl_is_integer : Array (Option Value)} {oc_is_integer kV_is_integer dc_is_integer pm_is_integer cd_is_integer ct_is_integer : Value} {f_is_seat : Addr} {od_is_seat an_is_seat : Option Addr} {sl_is_seat : Array (Option Value)} {oc_is_seat kV_is_seat dc_is_seat pm_is_seat cd_is_seat ct_is_seat : Value} {f_require_seat : Addr} {od_require_seat an_require_seat : Option Addr} {sl_require_seat : Array (Option Value)} {oc_require_seat kV_require_seat dc_require_seat pm_require_seat cd_require_seat ct_require_seat : Value} {f_require_seats : Addr} {od_require_seats an_require_seats : Option Addr} {sl_require_seats : Array (Option Value)} {oc_require_seats kV_require_seats dc_require_seats pm_require_seats cd_require_seats ct_require_seats : Value} {f_require_targets : Addr} {od_require_targets an_require_targets : Option Addr} {sl_require_targets : Array (Option Value)} {oc_require_targets kV_require_targets dc_require_targets pm_require_targets cd_require_targets ct_require_targets : Value} {f_Table_init : Addr} {od_Table_init an_Table_init : Option Addr} {sl_Table_init : Array (Option Value)} {oc_Table_init kV_Table_init dc_Table_init pm_Table_init cd_Table_init ct_Table_init : Value} {f_Table_sizes : Addr} {od_Table_sizes an_Table_sizes : Option Addr} {sl_Table_sizes : Array (Option Value)} {oc_Table_sizes kV_Table_sizes dc_Table_sizes pm_Table_sizes cd_Table_sizes ct_Table_sizes : Value} {f_Table_order : Addr} {od_Table_order an_Table_order : Option Addr} {sl_Table_order : Array (Option Value)} {oc_Table_order kV_Table_order dc_Table_order pm_Table_order cd_Table_order ct_Table_order : Value} {f_Table_halves : Addr} {od_Table_halves an_Table_halves : Option Addr} {sl_Table_halves : Array (Option Value)} {oc_Table_halves kV_Table_halves dc_Table_halves pm_Table_halves cd_Table_halves ct_Table_halves : Value} {f_sizes_of : Addr} {od_sizes_of an_sizes_of : Option Addr} {sl_sizes_of : Array (Option Value)} {oc_sizes_of kV_sizes_of dc_sizes_of pm_sizes_of cd_sizes_of ct_sizes_of : Value} {f_all_choices : Addr} {od_all_choices an_all_choices : Option Addr} {sl_all_choices : Array (Option Value)} {oc_all_choices kV_all_choices dc_all_choices pm_all_choices cd_all_choices ct_all_choices : Value} {f_are_sizes : Addr} {od_are_sizes an_are_sizes : Option Addr} {sl_are_sizes : Array (Option Value)} {oc_are_sizes kV_are_sizes dc_are_sizes pm_are_sizes cd_are_sizes ct_are_sizes : Value} {f_half_places : Addr} {od_half_places an_half_places : Option Addr} {sl_half_places : Array (Option Value)} {oc_half_places kV_half_places dc_half_places pm_half_places cd_half_places ct_half_places : Value} {f_weighted_sum : Addr} {od_weighted_sum an_weighted_sum : Option Addr} {sl_weighted_sum : Array (Option Value)} {oc_weighted_sum kV_weighted_sum dc_weighted_sum pm_weighted_sum cd_weighted_sum ct_weighted_sum : Value} {f_common_divisor : Addr} {od_common_divisor an_common_divisor : Option Addr} {sl_common_divisor : Array (Option Value)} {oc_common_divisor kV_common_divisor dc_common_divisor pm_common_divisor cd_common_divisor ct_common_divisor : Value} {f_odd_part : Addr} {od_odd_part an_odd_part : Option Addr} {sl_odd_part : Array (Option Value)} {oc_odd_part kV_odd_part dc_odd_part pm_odd_part cd_odd_part ct_odd_part : Value} {f_difference : Addr} {od_difference an_difference : Option Addr} {sl_difference : Array (Option Value)} {oc_difference kV_difference dc_difference pm_difference cd_difference ct_difference : Value} {f_shift_basis : Addr} {od_shift_basis an_shift_basis : Option Addr} {sl_shift_basis : Array (Option Value)} {oc_shift_basis kV_shift_basis dc_shift_basis pm_shift_basis cd_shift_basis ct_shift_basis : Value} {f_pivot_product : Addr} {od_pivot_product an_pivot_product : Option Addr} {sl_pivot_product : Array (Option Value)} {oc_pivot_product kV_pivot_product dc_pivot_product pm_pivot_product cd_pivot_product ct_pivot_product : Value} {f_inverse_column : Addr} {od_inverse_column an_inverse_column : Option Addr} {sl_inverse_column : Array (Option Value)} {oc_inverse_column kV_inverse_column dc_inverse_column pm_inverse_column cd_inverse_column ct_inverse_column : Value} {f_diagonal : Addr} {od_diagonal an_diagonal : Option Addr} {sl_diagonal : Array (Option Value)} {oc_diagonal kV_diagonal dc_diagonal pm_diagonal cd_diagonal ct_diagonal : Value} {f_with_vector : Addr} {od_with_vector an_with_vector : Option Addr} {sl_with_vector : Array (Option Value)} {oc_with_vector kV_with_vector dc_with_vector pm_with_vector cd_with_vector ct_with_vector : Value} {f_reduced : Addr} {od_reduced an_reduced : Option Addr} {sl_reduced : Array (Option Value)} {oc_reduced kV_reduced dc_reduced pm_reduced cd_reduced ct_reduced : Value} {f_coset_count : Addr} {od_coset_count an_coset_count : Option Addr} {sl_coset_count : Array (Option Value)} {oc_coset_count kV_coset_count dc_coset_count pm_coset_count cd_coset_count ct_coset_count : Value} {f_reach : Addr} {od_reach an_reach : Option Addr} {sl_reach : Array (Option Value)} {oc_reach kV_reach dc_reach pm_reach cd_reach ct_reach : Value} {f_short_witness : Addr} {od_short_witness an_short_witness : Option Addr} {sl_short_witness : Array (Option Value)} {oc_short_witness kV_short_witness dc_short_witness pm_short_witness cd_short_witness ct_short_witness : Value} {f_law_mixed : Addr} {od_law_mixed an_law_mixed : Option Addr} {sl_law_mixed : Array (Option Value)} {oc_law_mixed kV_law_mixed dc_law_mixed pm_law_mixed cd_law_mixed ct_law_mixed : Value} {f_law_source : Addr} {od_law_source an_law_source : Option Addr} {sl_law_source : Array (Option Value)} {oc_law_source kV_law_source dc_law_source pm_law_source cd_law_source ct_law_source : Value} {f_law_take : Addr} {od_law_take an_law_take : Option Addr} {sl_law_take : Array (Option Value)} {oc_law_take kV_law_take dc_law_take pm_law_take cd_law_take ct_law_take : Value} {f_law_odd_part : Addr} {od_law_odd_part an_law_odd_part : Option Addr} {sl_law_odd_part : Array (Option Value)} {oc_law_odd_part kV_law_odd_part dc_law_odd_part pm_law_odd_part cd_law_odd_part ct_law_odd_part : Value} {f_law_sum : Addr} {od_law_sum an_law_sum : Option Addr} {sl_law_sum : Array (Option Value)} {oc_law_sum kV_law_sum dc_law_sum pm_law_sum cd_law_sum ct_law_sum : Value} {f_law_times : Addr} {od_law_times an_law_times : Option Addr} {sl_law_times : Array (Option Value)} {oc_law_times kV_law_times dc_law_times pm_law_times cd_law_times ct_law_times : Value} {f_law_seat : Addr} {od_law_seat an_law_seat : Option Addr} {sl_law_seat : Array (Option Value)} {oc_law_seat kV_law_seat dc_law_seat pm_law_seat cd_law_seat ct_law_seat : Value} {f_law_sizes : Addr} {od_law_sizes an_law_sizes : Option Addr} {sl_law_sizes : Array (Option Value)} {oc_law_sizes kV_law_sizes dc_law_sizes pm_law_sizes cd_law_sizes ct_law_sizes : Value} {f_law_check : Addr} {od_law_check an_law_check : Option Addr} {sl_law_check : Array (Option Value)} {oc_law_check kV_law_check dc_law_check pm_law_check cd_law_check ct_law_check : Value} {f_law : Addr} {od_law an_law : Option Addr} {sl_law : Array (Option Value)} {oc_law kV_law dc_law pm_law cd_law ct_law : Value} {v_MAX_RINGS : Value}
    (ac_Table : PySem.W.nsIn K mainGlobals "Table" = some (some (.ref c_Table)))
    (a_is_integer : PySem.W.nsIn K mainGlobals "is_integer" = some (some (.ref f_is_integer)))
    (l_is_integer : K.lookup f_is_integer = some ⟨oc_is_integer, od_is_integer, .func (PySem.W.fnOf "is_integer" "is_integer" (defArgs d_is_integer) (defBody d_is_integer) (defScope d_is_integer) .none kV_is_integer dc_is_integer pm_is_integer an_is_integer cd_is_integer ct_is_integer), sl_is_integer⟩)
    (x_is_integer : PySem.W.codeIn K cd_is_integer "is_integer" = true)
    (k_is_integer : PySem.W.keepIn K (.ref f_is_integer) = true)
    (a_is_seat : PySem.W.nsIn K mainGlobals "is_seat" = some (some (.ref f_is_seat)))
    (l_is_seat : K.lookup f_is_seat = some ⟨oc_is_seat, od_is_seat, .func (PySem.W.fnOf "is_seat" "is_seat" (defArgs d_is_seat) (defBody d_is_seat) (defScope d_is_seat) .none kV_is_seat dc_is_seat pm_is_seat an_is_seat cd_is_seat ct_is_seat), sl_is_seat⟩)
    (x_is_seat : PySem.W.codeIn K cd_is_seat "is_seat" = true)
    (k_is_seat : PySem.W.keepIn K (.ref f_is_seat) = true)
    (a_require_seat : PySem.W.nsIn K mainGlobals "require_seat" = some (some (.ref f_require_seat)))
    (l_require_seat : K.lookup f_require_seat = some ⟨oc_require_seat, od_require_seat, .func (PySem.W.fnOf "require_seat" "require_seat" (defArgs d_require_seat) (defBody d_require_seat) (defScope d_require_seat) .none kV_require_seat dc_require_seat pm_require_seat an_require_seat cd_require_seat ct_require_seat), sl_require_seat⟩)
    (x_require_seat : PySem.W.codeIn K cd_require_seat "require_seat" = true)
    (k_require_seat : PySem.W.keepIn K (.ref f_require_seat) = true)
    (a_require_seats : PySem.W.nsIn K mainGlobals "require_seats" = some (some (.ref f_require_seats)))
    (l_require_seats : K.lookup f_require_seats = some ⟨oc_require_seats, od_require_seats, .func (PySem.W.fnOf "require_seats" "require_seats" (defArgs d_require_seats) (defBody d_require_seats) (defScope d_require_seats) .none kV_require_seats dc_require_seats pm_require_seats an_require_seats cd_require_seats ct_require_seats), sl_require_seats⟩)
    (x_require_seats : PySem.W.codeIn K cd_require_seats "require_seats" = true)
    (k_require_seats : PySem.W.keepIn K (.ref f_require_seats) = true)
    (a_require_targets : PySem.W.nsIn K mainGlobals "require_targets" = some (some (.ref f_require_targets)))
    (l_require_targets : K.lookup f_require_targets = some ⟨oc_require_targets, od_require_targets, .func (PySem.W.fnOf "require_targets" "require_targets" (defArgs d_require_targets) (defBody d_require_targets) (defScope d_require_targets) .none kV_require_targets dc_require_targets pm_require_targets an_require_targets cd_require_targets ct_require_targets), sl_require_targets⟩)
    (x_require_targets : PySem.W.codeIn K cd_require_targets "require_targets" = true)
    (k_require_targets : PySem.W.keepIn K (.ref f_require_targets) = true)
    (a_Table_init : PySem.W.findIn K (.ref c_Table) "__init__" = some (some (.ref f_Table_init)))
    (i_Table_init : PySem.W.isFn K (.ref f_Table_init) = true)
    (l_Table_init : K.lookup f_Table_init = some ⟨oc_Table_init, od_Table_init, .func (PySem.W.fnOf "__init__" "Table.__init__" (defArgs d_Table_init) (defBody d_Table_init) (defScope d_Table_init) .none kV_Table_init dc_Table_init pm_Table_init an_Table_init cd_Table_init ct_Table_init), sl_Table_init⟩)
    (x_Table_init : PySem.W.codeIn K cd_Table_init "Table.__init__" = true)
    (k_Table_init : PySem.W.keepIn K (.ref f_Table_init) = true)
    (a_Table_sizes : PySem.W.findIn K (.ref c_Table) "sizes" = some (some (.ref f_Table_sizes)))
    (i_Table_sizes : PySem.W.isFn K (.ref f_Table_sizes) = true)
    (l_Table_sizes : K.lookup f_Table_sizes = some ⟨oc_Table_sizes, od_Table_sizes, .func (PySem.W.fnOf "sizes" "Table.sizes" (defArgs d_Table_sizes) (defBody d_Table_sizes) (defScope d_Table_sizes) .none kV_Table_sizes dc_Table_sizes pm_Table_sizes an_Table_sizes cd_Table_sizes ct_Table_sizes), sl_Table_sizes⟩)
    (x_Table_sizes : PySem.W.codeIn K cd_Table_sizes "Table.sizes" = true)
    (k_Table_sizes : PySem.W.keepIn K (.ref f_Table_sizes) = true)
    (a_Table_order : PySem.W.findIn K (.ref c_Table) "order" = some (some (.ref f_Table_order)))
    (i_Table_order : PySem.W.isFn K (.ref f_Table_order) = true)
    (l_Table_order : K.lookup f_Table_order = some ⟨oc_Table_order, od_Table_order, .func (PySem.W.fnOf "order" "Table.order" (defArgs d_Table_order) (defBody d_Table_order) (defScope d_Table_order) .none kV_Table_order dc_Table_order pm_Table_order an_Table_order cd_Table_order ct_Table_order), sl_Table_order⟩)
    (x_Table_order : PySem.W.codeIn K cd_Table_order "Table.order" = true)
    (k_Table_order : PySem.W.keepIn K (.ref f_Table_order) = true)
    (a_Table_halves : PySem.W.findIn K (.ref c_Table) "halves" = some (some (.ref f_Table_halves)))
    (i_Table_halves : PySem.W.isFn K (.ref f_Table_halves) = true)
    (l_Table_halves : K.lookup f_Table_halves = some ⟨oc_Table_halves, od_Table_halves, .func (PySem.W.fnOf "halves" "Table.halves" (defArgs d_Table_halves) (defBody d_Table_halves) (defScope d_Table_halves) .none kV_Table_halves dc_Table_halves pm_Table_halves an_Table_halves cd_Table_halves ct_Table_halves), sl_Table_halves⟩)
    (x_Table_halves : PySem.W.codeIn K cd_Table_halves "Table.halves" = true)
    (k_Table_halves : PySem.W.keepIn K (.ref f_Table_halves) = true)
    (a_sizes_of : PySem.W.nsIn K mainGlobals "sizes_of" = some (some (.ref f_sizes_of)))
    (l_sizes_of : K.lookup f_sizes_of = some ⟨oc_sizes_of, od_sizes_of, .func (PySem.W.fnOf "sizes_of" "sizes_of" (defArgs d_sizes_of) (defBody d_sizes_of) (defScope d_sizes_of) .none kV_sizes_of dc_sizes_of pm_sizes_of an_sizes_of cd_sizes_of ct_sizes_of), sl_sizes_of⟩)
    (x_sizes_of : PySem.W.codeIn K cd_sizes_of "sizes_of" = true)
    (k_sizes_of : PySem.W.keepIn K (.ref f_sizes_of) = true)
    (a_all_choices : PySem.W.nsIn K mainGlobals "all_choices" = some (some (.ref f_all_choices)))
    (l_all_choices : K.lookup f_all_choices = some ⟨oc_all_choices, od_all_choices, .func (PySem.W.fnOf "all_choices" "all_choices" (defArgs d_all_choices) (defBody d_all_choices) (defScope d_all_choices) .none kV_all_choices dc_all_choices pm_all_choices an_all_choices cd_all_choices ct_all_choices), sl_all_choices⟩)
    (x_all_choices : PySem.W.codeIn K cd_all_choices "all_choices" = true)
    (k_all_choices : PySem.W.keepIn K (.ref f_all_choices) = true)
    (a_are_sizes : PySem.W.nsIn K mainGlobals "_are_sizes" = some (some (.ref f_are_sizes)))
    (l_are_sizes : K.lookup f_are_sizes = some ⟨oc_are_sizes, od_are_sizes, .func (PySem.W.fnOf "_are_sizes" "_are_sizes" (defArgs d_are_sizes) (defBody d_are_sizes) (defScope d_are_sizes) .none kV_are_sizes dc_are_sizes pm_are_sizes an_are_sizes cd_are_sizes ct_are_sizes), sl_are_sizes⟩)
    (x_are_sizes : PySem.W.codeIn K cd_are_sizes "_are_sizes" = true)
    (k_are_sizes : PySem.W.keepIn K (.ref f_are_sizes) = true)
    (a_half_places : PySem.W.nsIn K mainGlobals "_half_places" = some (some (.ref f_half_places)))
    (l_half_places : K.lookup f_half_places = some ⟨oc_half_places, od_half_places, .func (PySem.W.fnOf "_half_places" "_half_places" (defArgs d_half_places) (defBody d_half_places) (defScope d_half_places) .none kV_half_places dc_half_places pm_half_places an_half_places cd_half_places ct_half_places), sl_half_places⟩)
    (x_half_places : PySem.W.codeIn K cd_half_places "_half_places" = true)
    (k_half_places : PySem.W.keepIn K (.ref f_half_places) = true)
    (a_weighted_sum : PySem.W.nsIn K mainGlobals "weighted_sum" = some (some (.ref f_weighted_sum)))
    (l_weighted_sum : K.lookup f_weighted_sum = some ⟨oc_weighted_sum, od_weighted_sum, .func (PySem.W.fnOf "weighted_sum" "weighted_sum" (defArgs d_weighted_sum) (defBody d_weighted_sum) (defScope d_weighted_sum) .none kV_weighted_sum dc_weighted_sum pm_weighted_sum an_weighted_sum cd_weighted_sum ct_weighted_sum), sl_weighted_sum⟩)
    (x_weighted_sum : PySem.W.codeIn K cd_weighted_sum "weighted_sum" = true)
    (k_weighted_sum : PySem.W.keepIn K (.ref f_weighted_sum) = true)
    (a_common_divisor : PySem.W.nsIn K mainGlobals "common_divisor" = some (some (.ref f_common_divisor)))
    (l_common_divisor : K.lookup f_common_divisor = some ⟨oc_common_divisor, od_common_divisor, .func (PySem.W.fnOf "common_divisor" "common_divisor" (defArgs d_common_divisor) (defBody d_common_divisor) (defScope d_common_divisor) .none kV_common_divisor dc_common_divisor pm_common_divisor an_common_divisor cd_common_divisor ct_common_divisor), sl_common_divisor⟩)
    (x_common_divisor : PySem.W.codeIn K cd_common_divisor "common_divisor" = true)
    (k_common_divisor : PySem.W.keepIn K (.ref f_common_divisor) = true)
    (a_odd_part : PySem.W.nsIn K mainGlobals "odd_part" = some (some (.ref f_odd_part)))
    (l_odd_part : K.lookup f_odd_part = some ⟨oc_odd_part, od_odd_part, .func (PySem.W.fnOf "odd_part" "odd_part" (defArgs d_odd_part) (defBody d_odd_part) (defScope d_odd_part) .none kV_odd_part dc_odd_part pm_odd_part an_odd_part cd_odd_part ct_odd_part), sl_odd_part⟩)
    (x_odd_part : PySem.W.codeIn K cd_odd_part "odd_part" = true)
    (k_odd_part : PySem.W.keepIn K (.ref f_odd_part) = true)
    (a_difference : PySem.W.nsIn K mainGlobals "difference" = some (some (.ref f_difference)))
    (l_difference : K.lookup f_difference = some ⟨oc_difference, od_difference, .func (PySem.W.fnOf "difference" "difference" (defArgs d_difference) (defBody d_difference) (defScope d_difference) .none kV_difference dc_difference pm_difference an_difference cd_difference ct_difference), sl_difference⟩)
    (x_difference : PySem.W.codeIn K cd_difference "difference" = true)
    (k_difference : PySem.W.keepIn K (.ref f_difference) = true)
    (a_shift_basis : PySem.W.nsIn K mainGlobals "shift_basis" = some (some (.ref f_shift_basis)))
    (l_shift_basis : K.lookup f_shift_basis = some ⟨oc_shift_basis, od_shift_basis, .func (PySem.W.fnOf "shift_basis" "shift_basis" (defArgs d_shift_basis) (defBody d_shift_basis) (defScope d_shift_basis) .none kV_shift_basis dc_shift_basis pm_shift_basis an_shift_basis cd_shift_basis ct_shift_basis), sl_shift_basis⟩)
    (x_shift_basis : PySem.W.codeIn K cd_shift_basis "shift_basis" = true)
    (k_shift_basis : PySem.W.keepIn K (.ref f_shift_basis) = true)
    (a_pivot_product : PySem.W.nsIn K mainGlobals "pivot_product" = some (some (.ref f_pivot_product)))
    (l_pivot_product : K.lookup f_pivot_product = some ⟨oc_pivot_product, od_pivot_product, .func (PySem.W.fnOf "pivot_product" "pivot_product" (defArgs d_pivot_product) (defBody d_pivot_product) (defScope d_pivot_product) .none kV_pivot_product dc_pivot_product pm_pivot_product an_pivot_product cd_pivot_product ct_pivot_product), sl_pivot_product⟩)
    (x_pivot_product : PySem.W.codeIn K cd_pivot_product "pivot_product" = true)
    (k_pivot_product : PySem.W.keepIn K (.ref f_pivot_product) = true)
    (a_inverse_column : PySem.W.nsIn K mainGlobals "inverse_column" = some (some (.ref f_inverse_column)))
    (l_inverse_column : K.lookup f_inverse_column = some ⟨oc_inverse_column, od_inverse_column, .func (PySem.W.fnOf "inverse_column" "inverse_column" (defArgs d_inverse_column) (defBody d_inverse_column) (defScope d_inverse_column) .none kV_inverse_column dc_inverse_column pm_inverse_column an_inverse_column cd_inverse_column ct_inverse_column), sl_inverse_column⟩)
    (x_inverse_column : PySem.W.codeIn K cd_inverse_column "inverse_column" = true)
    (k_inverse_column : PySem.W.keepIn K (.ref f_inverse_column) = true)
    (a_diagonal : PySem.W.nsIn K mainGlobals "_diagonal" = some (some (.ref f_diagonal)))
    (l_diagonal : K.lookup f_diagonal = some ⟨oc_diagonal, od_diagonal, .func (PySem.W.fnOf "_diagonal" "_diagonal" (defArgs d_diagonal) (defBody d_diagonal) (defScope d_diagonal) .none kV_diagonal dc_diagonal pm_diagonal an_diagonal cd_diagonal ct_diagonal), sl_diagonal⟩)
    (x_diagonal : PySem.W.codeIn K cd_diagonal "_diagonal" = true)
    (k_diagonal : PySem.W.keepIn K (.ref f_diagonal) = true)
    (a_with_vector : PySem.W.nsIn K mainGlobals "_with_vector" = some (some (.ref f_with_vector)))
    (l_with_vector : K.lookup f_with_vector = some ⟨oc_with_vector, od_with_vector, .func (PySem.W.fnOf "_with_vector" "_with_vector" (defArgs d_with_vector) (defBody d_with_vector) (defScope d_with_vector) .none kV_with_vector dc_with_vector pm_with_vector an_with_vector cd_with_vector ct_with_vector), sl_with_vector⟩)
    (x_with_vector : PySem.W.codeIn K cd_with_vector "_with_vector" = true)
    (k_with_vector : PySem.W.keepIn K (.ref f_with_vector) = true)
    (a_reduced : PySem.W.nsIn K mainGlobals "_reduced" = some (some (.ref f_reduced)))
    (l_reduced : K.lookup f_reduced = some ⟨oc_reduced, od_reduced, .func (PySem.W.fnOf "_reduced" "_reduced" (defArgs d_reduced) (defBody d_reduced) (defScope d_reduced) .none kV_reduced dc_reduced pm_reduced an_reduced cd_reduced ct_reduced), sl_reduced⟩)
    (x_reduced : PySem.W.codeIn K cd_reduced "_reduced" = true)
    (k_reduced : PySem.W.keepIn K (.ref f_reduced) = true)
    (a_coset_count : PySem.W.nsIn K mainGlobals "coset_count" = some (some (.ref f_coset_count)))
    (l_coset_count : K.lookup f_coset_count = some ⟨oc_coset_count, od_coset_count, .func (PySem.W.fnOf "coset_count" "coset_count" (defArgs d_coset_count) (defBody d_coset_count) (defScope d_coset_count) .none kV_coset_count dc_coset_count pm_coset_count an_coset_count cd_coset_count ct_coset_count), sl_coset_count⟩)
    (x_coset_count : PySem.W.codeIn K cd_coset_count "coset_count" = true)
    (k_coset_count : PySem.W.keepIn K (.ref f_coset_count) = true)
    (a_reach : PySem.W.nsIn K mainGlobals "reach" = some (some (.ref f_reach)))
    (l_reach : K.lookup f_reach = some ⟨oc_reach, od_reach, .func (PySem.W.fnOf "reach" "reach" (defArgs d_reach) (defBody d_reach) (defScope d_reach) .none kV_reach dc_reach pm_reach an_reach cd_reach ct_reach), sl_reach⟩)
    (x_reach : PySem.W.codeIn K cd_reach "reach" = true)
    (k_reach : PySem.W.keepIn K (.ref f_reach) = true)
    (a_short_witness : PySem.W.nsIn K mainGlobals "_short_witness" = some (some (.ref f_short_witness)))
    (l_short_witness : K.lookup f_short_witness = some ⟨oc_short_witness, od_short_witness, .func (PySem.W.fnOf "_short_witness" "_short_witness" (defArgs d_short_witness) (defBody d_short_witness) (defScope d_short_witness) .none kV_short_witness dc_short_witness pm_short_witness an_short_witness cd_short_witness ct_short_witness), sl_short_witness⟩)
    (x_short_witness : PySem.W.codeIn K cd_short_witness "_short_witness" = true)
    (k_short_witness : PySem.W.keepIn K (.ref f_short_witness) = true)
    (a_law_mixed : PySem.W.nsIn K mainGlobals "_law_mixed" = some (some (.ref f_law_mixed)))
    (l_law_mixed : K.lookup f_law_mixed = some ⟨oc_law_mixed, od_law_mixed, .func (PySem.W.fnOf "_law_mixed" "_law_mixed" (defArgs d_law_mixed) (defBody d_law_mixed) (defScope d_law_mixed) .none kV_law_mixed dc_law_mixed pm_law_mixed an_law_mixed cd_law_mixed ct_law_mixed), sl_law_mixed⟩)
    (x_law_mixed : PySem.W.codeIn K cd_law_mixed "_law_mixed" = true)
    (k_law_mixed : PySem.W.keepIn K (.ref f_law_mixed) = true)
    (a_law_source : PySem.W.nsIn K mainGlobals "_law_source" = some (some (.ref f_law_source)))
    (l_law_source : K.lookup f_law_source = some ⟨oc_law_source, od_law_source, .func (PySem.W.fnOf "_law_source" "_law_source" (defArgs d_law_source) (defBody d_law_source) (defScope d_law_source) .none kV_law_source dc_law_source pm_law_source an_law_source cd_law_source ct_law_source), sl_law_source⟩)
    (x_law_source : PySem.W.codeIn K cd_law_source "_law_source" = true)
    (k_law_source : PySem.W.keepIn K (.ref f_law_source) = true)
    (a_law_take : PySem.W.nsIn K mainGlobals "_law_take" = some (some (.ref f_law_take)))
    (l_law_take : K.lookup f_law_take = some ⟨oc_law_take, od_law_take, .func (PySem.W.fnOf "_law_take" "_law_take" (defArgs d_law_take) (defBody d_law_take) (defScope d_law_take) .none kV_law_take dc_law_take pm_law_take an_law_take cd_law_take ct_law_take), sl_law_take⟩)
    (x_law_take : PySem.W.codeIn K cd_law_take "_law_take" = true)
    (k_law_take : PySem.W.keepIn K (.ref f_law_take) = true)
    (a_law_odd_part : PySem.W.nsIn K mainGlobals "_law_odd_part" = some (some (.ref f_law_odd_part)))
    (l_law_odd_part : K.lookup f_law_odd_part = some ⟨oc_law_odd_part, od_law_odd_part, .func (PySem.W.fnOf "_law_odd_part" "_law_odd_part" (defArgs d_law_odd_part) (defBody d_law_odd_part) (defScope d_law_odd_part) .none kV_law_odd_part dc_law_odd_part pm_law_odd_part an_law_odd_part cd_law_odd_part ct_law_odd_part), sl_law_odd_part⟩)
    (x_law_odd_part : PySem.W.codeIn K cd_law_odd_part "_law_odd_part" = true)
    (k_law_odd_part : PySem.W.keepIn K (.ref f_law_odd_part) = true)
    (a_law_sum : PySem.W.nsIn K mainGlobals "_law_sum" = some (some (.ref f_law_sum)))
    (l_law_sum : K.lookup f_law_sum = some ⟨oc_law_sum, od_law_sum, .func (PySem.W.fnOf "_law_sum" "_law_sum" (defArgs d_law_sum) (defBody d_law_sum) (defScope d_law_sum) .none kV_law_sum dc_law_sum pm_law_sum an_law_sum cd_law_sum ct_law_sum), sl_law_sum⟩)
    (x_law_sum : PySem.W.codeIn K cd_law_sum "_law_sum" = true)
    (k_law_sum : PySem.W.keepIn K (.ref f_law_sum) = true)
    (a_law_times : PySem.W.nsIn K mainGlobals "_law_times" = some (some (.ref f_law_times)))
    (l_law_times : K.lookup f_law_times = some ⟨oc_law_times, od_law_times, .func (PySem.W.fnOf "_law_times" "_law_times" (defArgs d_law_times) (defBody d_law_times) (defScope d_law_times) .none kV_law_times dc_law_times pm_law_times an_law_times cd_law_times ct_law_times), sl_law_times⟩)
    (x_law_times : PySem.W.codeIn K cd_law_times "_law_times" = true)
    (k_law_times : PySem.W.keepIn K (.ref f_law_times) = true)
    (a_law_seat : PySem.W.nsIn K mainGlobals "_law_seat" = some (some (.ref f_law_seat)))
    (l_law_seat : K.lookup f_law_seat = some ⟨oc_law_seat, od_law_seat, .func (PySem.W.fnOf "_law_seat" "_law_seat" (defArgs d_law_seat) (defBody d_law_seat) (defScope d_law_seat) .none kV_law_seat dc_law_seat pm_law_seat an_law_seat cd_law_seat ct_law_seat), sl_law_seat⟩)
    (x_law_seat : PySem.W.codeIn K cd_law_seat "_law_seat" = true)
    (k_law_seat : PySem.W.keepIn K (.ref f_law_seat) = true)
    (a_law_sizes : PySem.W.nsIn K mainGlobals "_law_sizes" = some (some (.ref f_law_sizes)))
    (l_law_sizes : K.lookup f_law_sizes = some ⟨oc_law_sizes, od_law_sizes, .func (PySem.W.fnOf "_law_sizes" "_law_sizes" (defArgs d_law_sizes) (defBody d_law_sizes) (defScope d_law_sizes) .none kV_law_sizes dc_law_sizes pm_law_sizes an_law_sizes cd_law_sizes ct_law_sizes), sl_law_sizes⟩)
    (x_law_sizes : PySem.W.codeIn K cd_law_sizes "_law_sizes" = true)
    (k_law_sizes : PySem.W.keepIn K (.ref f_law_sizes) = true)
    (a_law_check : PySem.W.nsIn K mainGlobals "_law_check" = some (some (.ref f_law_check)))
    (l_law_check : K.lookup f_law_check = some ⟨oc_law_check, od_law_check, .func (PySem.W.fnOf "_law_check" "_law_check" (defArgs d_law_check) (defBody d_law_check) (defScope d_law_check) .none kV_law_check dc_law_check pm_law_check an_law_check cd_law_check ct_law_check), sl_law_check⟩)
    (x_law_check : PySem.W.codeIn K cd_law_check "_law_check" = true)
    (k_law_check : PySem.W.keepIn K (.ref f_law_check) = true)
    (a_law : PySem.W.nsIn K mainGlobals "law" = some (some (.ref f_law)))
    (l_law : K.lookup f_law = some ⟨oc_law, od_law, .func (PySem.W.fnOf "law" "law" (defArgs d_law) (defBody d_law) (defScope d_law) .none kV_law dc_law pm_law an_law cd_law ct_law), sl_law⟩)
    (x_law : PySem.W.codeIn K cd_law "law" = true)
    (k_law : PySem.W.keepIn K (.ref f_law) = true)
    (pg_Table : PySem.W.plainGet K c_Table Str.empty = true)
    (hd_Table : PySem.W.hasDictIn K c_Table = true)
    (po_Table : PySem.W.plainOver K c_Table = true)
    (sa_Table : PySem.W.findIn K (.ref c_Table) "__setattr__" = some (some (.builtin "object.__setattr__")))
    (mk_Table : PySem.W.makesIn K c_Table = true)
    (kc_Table : PySem.W.keepIn K (.ref c_Table) = true)
    (no_Table_sizes : PySem.W.findIn K (.ref c_Table) "_sizes" = some none)
    (ih_Table : PySem.W.findIn K (.ref c_Table) "__class__" = some (some (.builtin "object.__class__")))
    (in_Table : PySem.W.specialIn K (.builtin "object.__class__") "__get__" = some (some (.builtin "getset_descriptor.__get__")))
    (it_Table : PySem.W.takesIn K (.builtin "object.__class__") = some true)
    (im_Table : PySem.W.mroIn K c_Table (.type "object") = some true)
    (w_gcd : PySem.W.nsIn K mainGlobals "gcd" = some (some (.builtin "math.gcd")))
    (w_lcm : PySem.W.nsIn K mainGlobals "lcm" = some (some (.builtin "math.lcm")))
    (y_MAX_RINGS : PySem.W.nsIn K mainGlobals "MAX_RINGS" = some (some v_MAX_RINGS))
    (r_MAX_RINGS : RelV (.int 4) v_MAX_RINGS)
    (z_all : PySem.W.nsIn K mainGlobals "all" = some none)
    (z_bool : PySem.W.nsIn K mainGlobals "bool" = some none)
    (z_enumerate : PySem.W.nsIn K mainGlobals "enumerate" = some none)
    (z_int : PySem.W.nsIn K mainGlobals "int" = some none)
    (z_isinstance : PySem.W.nsIn K mainGlobals "isinstance" = some none)
    (z_len : PySem.W.nsIn K mainGlobals "len" = some none)
    (z_list : PySem.W.nsIn K mainGlobals "list" = some none)
    (z_range : PySem.W.nsIn K mainGlobals "range" = some none)
    (z_reversed : PySem.W.nsIn K mainGlobals "reversed" = some none)
    (z_set : PySem.W.nsIn K mainGlobals "set" = some none)
    (z_sum : PySem.W.nsIn K mainGlobals "sum" = some none)
    (z_tuple : PySem.W.nsIn K mainGlobals "tuple" = some none)
    (z_zip : PySem.W.nsIn K mainGlobals "zip" = some none)
    (ho_CX0 : Unit := ()) : ∃ fd : FuncData, (∀ (s : Shared) (v : Value), BindsTo s fd ⟨[v], []⟩ [("_law_script", v)]) ∧ ∀ base : Heap, K.In base → base.Ns mainGlobals mg → FnOk P w K mg base CX0 6 fa fd ["_law_script"] (sp_law K) := by
  have e := hfa.symm.trans (PySem.W.mg_of X G a_law)
  cases e
  have F_is_integer := fun_mk (st := d_is_integer) l_is_integer x_is_integer k_is_integer
  have b_is_integer := F_is_integer.binds (ps := ["number"]) fun _ _ _ _ _ _ us hl => match us, hl with | [_], _ => rfl
  have F_is_seat := fun_mk (st := d_is_seat) l_is_seat x_is_seat k_is_seat
  have b_is_seat := F_is_seat.binds (ps := ["sizes", "seat"]) fun _ _ _ _ _ _ us hl => match us, hl with | [_, _], _ => rfl
  have F_require_seat := fun_mk (st := d_require_seat) l_require_seat x_require_seat k_require_seat
  have b_require_seat := F_require_seat.binds (ps := ["sizes", "seat"]) fun _ _ _ _ _ _ us hl => match us, hl with | [_, _], _ => rfl
  have F_require_seats := fun_mk (st := d_require_seats) l_require_seats x_require_seats k_require_seats
  have b_require_seats := F_require_seats.binds (ps := ["sizes", "seats"]) fun _ _ _ _ _ _ us hl => match us, hl with | [_, _], _ => rfl
  have F_require_targets := fun_mk (st := d_require_targets) l_require_targets x_require_targets k_require_targets
  have b_require_targets := F_require_targets.binds (ps := ["sizes", "targets"]) fun _ _ _ _ _ _ us hl => match us, hl with | [_, _], _ => rfl
  have F_Table_init := fun_mk (st := d_Table_init) l_Table_init x_Table_init k_Table_init
  have b_Table_init := F_Table_init.binds (ps := ["self", "rings"]) fun _ _ _ _ _ _ us hl => match us, hl with | [_, _], _ => rfl
  have F_Table_sizes := fun_mk (st := d_Table_sizes) l_Table_sizes x_Table_sizes k_Table_sizes
  have b_Table_sizes := F_Table_sizes.binds (ps := ["self"]) fun _ _ _ _ _ _ us hl => match us, hl with | [_], _ => rfl
  have F_Table_order := fun_mk (st := d_Table_order) l_Table_order x_Table_order k_Table_order
  have b_Table_order := F_Table_order.binds (ps := ["self", "seat"]) fun _ _ _ _ _ _ us hl => match us, hl with | [_, _], _ => rfl
  have F_Table_halves := fun_mk (st := d_Table_halves) l_Table_halves x_Table_halves k_Table_halves
  have b_Table_halves := F_Table_halves.binds (ps := ["self", "seat"]) fun _ _ _ _ _ _ us hl => match us, hl with | [_, _], _ => rfl
  have F_sizes_of := fun_mk (st := d_sizes_of) l_sizes_of x_sizes_of k_sizes_of
  have b_sizes_of := F_sizes_of.binds (ps := ["table"]) fun _ _ _ _ _ _ us hl => match us, hl with | [_], _ => rfl
  have F_all_choices := fun_mk (st := d_all_choices) l_all_choices x_all_choices k_all_choices
  have b_all_choices := F_all_choices.binds (ps := ["options"]) fun _ _ _ _ _ _ us hl => match us, hl with | [_], _ => rfl
  have F_are_sizes := fun_mk (st := d_are_sizes) l_are_sizes x_are_sizes k_are_sizes
  have b_are_sizes := F_are_sizes.binds (ps := ["rings"]) fun _ _ _ _ _ _ us hl => match us, hl with | [_], _ => rfl
  have F_half_places := fun_mk (st := d_half_places) l_half_places x_half_places k_half_places
  have b_half_places := F_half_places.binds (ps := ["place", "size"]) fun _ _ _ _ _ _ us hl => match us, hl with | [_, _], _ => rfl
  have F_weighted_sum := fun_mk (st := d_weighted_sum) l_weighted_sum x_weighted_sum k_weighted_sum
  have b_weighted_sum := F_weighted_sum.binds (ps := ["weights", "vector"]) fun _ _ _ _ _ _ us hl => match us, hl with | [_, _], _ => rfl
  have F_common_divisor := fun_mk (st := d_common_divisor) l_common_divisor x_common_divisor k_common_divisor
  have b_common_divisor := F_common_divisor.binds (ps := ["modulus", "weights"]) fun _ _ _ _ _ _ us hl => match us, hl with | [_, _], _ => rfl
  have F_odd_part := fun_mk (st := d_odd_part) l_odd_part x_odd_part k_odd_part
  have b_odd_part := F_odd_part.binds (ps := ["size"]) fun _ _ _ _ _ _ us hl => match us, hl with | [_], _ => rfl
  have F_difference := fun_mk (st := d_difference) l_difference x_difference k_difference
  have b_difference := F_difference.binds (ps := ["seat", "other"]) fun _ _ _ _ _ _ us hl => match us, hl with | [_, _], _ => rfl
  have F_shift_basis := fun_mk (st := d_shift_basis) l_shift_basis x_shift_basis k_shift_basis
  have b_shift_basis := F_shift_basis.binds (ps := ["sizes", "targets"]) fun _ _ _ _ _ _ us hl => match us, hl with | [_, _], _ => rfl
  have F_pivot_product := fun_mk (st := d_pivot_product) l_pivot_product x_pivot_product k_pivot_product
  have b_pivot_product := F_pivot_product.binds (ps := ["basis"]) fun _ _ _ _ _ _ us hl => match us, hl with | [_], _ => rfl
  have F_inverse_column := fun_mk (st := d_inverse_column) l_inverse_column x_inverse_column k_inverse_column
  have b_inverse_column := F_inverse_column.binds (ps := ["basis", "modulus", "column"]) fun _ _ _ _ _ _ us hl => match us, hl with | [_, _, _], _ => rfl
  have F_diagonal := fun_mk (st := d_diagonal) l_diagonal x_diagonal k_diagonal
  have b_diagonal := F_diagonal.binds (ps := ["entries"]) fun _ _ _ _ _ _ us hl => match us, hl with | [_], _ => rfl
  have F_with_vector := fun_mk (st := d_with_vector) l_with_vector x_with_vector k_with_vector
  have b_with_vector := F_with_vector.binds (ps := ["basis", "odds", "vector"]) fun _ _ _ _ _ _ us hl => match us, hl with | [_, _, _], _ => rfl
  have F_reduced := fun_mk (st := d_reduced) l_reduced x_reduced k_reduced
  have b_reduced := F_reduced.binds (ps := ["vector", "odds"]) fun _ _ _ _ _ _ us hl => match us, hl with | [_, _], _ => rfl
  have F_coset_count := fun_mk (st := d_coset_count) l_coset_count x_coset_count k_coset_count
  have b_coset_count := F_coset_count.binds (ps := ["table", "targets"]) fun _ _ _ _ _ _ us hl => match us, hl with | [_, _], _ => rfl
  have F_reach := fun_mk (st := d_reach) l_reach x_reach k_reach
  have b_reach := F_reach.binds (ps := ["table", "targets", "seat"]) fun _ _ _ _ _ _ us hl => match us, hl with | [_, _, _], _ => rfl
  have F_short_witness := fun_mk (st := d_short_witness) l_short_witness x_short_witness k_short_witness
  have b_short_witness := F_short_witness.binds (ps := ["modulus", "weights", "target"]) fun _ _ _ _ _ _ us hl => match us, hl with | [_, _, _], _ => rfl
  have F_law_mixed := fun_mk (st := d_law_mixed) l_law_mixed x_law_mixed k_law_mixed
  have b_law_mixed := F_law_mixed.binds (ps := ["_law_cell", "_law_draw"]) fun _ _ _ _ _ _ us hl => match us, hl with | [_, _], _ => rfl
  have F_law_source := fun_mk (st := d_law_source) l_law_source x_law_source k_law_source
  have b_law_source := F_law_source.binds (ps := ["_law_cell"]) fun _ _ _ _ _ _ us hl => match us, hl with | [_], _ => rfl
  have F_law_take := fun_mk (st := d_law_take) l_law_take x_law_take k_law_take
  have b_law_take := F_law_take.binds (ps := ["_law_source_here", "_law_count"]) fun _ _ _ _ _ _ us hl => match us, hl with | [_, _], _ => rfl
  have F_law_odd_part := fun_mk (st := d_law_odd_part) l_law_odd_part x_law_odd_part k_law_odd_part
  have b_law_odd_part := F_law_odd_part.binds (ps := ["_law_number"]) fun _ _ _ _ _ _ us hl => match us, hl with | [_], _ => rfl
  have F_law_sum := fun_mk (st := d_law_sum) l_law_sum x_law_sum k_law_sum
  have b_law_sum := F_law_sum.binds (ps := ["_law_first", "_law_second", "_law_sizes_here"]) fun _ _ _ _ _ _ us hl => match us, hl with | [_, _, _], _ => rfl
  have F_law_times := fun_mk (st := d_law_times) l_law_times x_law_times k_law_times
  have b_law_times := F_law_times.binds (ps := ["_law_factor", "_law_first", "_law_sizes_here"]) fun _ _ _ _ _ _ us hl => match us, hl with | [_, _, _], _ => rfl
  have F_law_seat := fun_mk (st := d_law_seat) l_law_seat x_law_seat k_law_seat
  have b_law_seat := F_law_seat.binds (ps := ["_law_source_here", "_law_sizes_here"]) fun _ _ _ _ _ _ us hl => match us, hl with | [_, _], _ => rfl
  have F_law_sizes := fun_mk (st := d_law_sizes) l_law_sizes x_law_sizes k_law_sizes
  have b_law_sizes := F_law_sizes.binds (ps := ["_law_source_here"]) fun _ _ _ _ _ _ us hl => match us, hl with | [_], _ => rfl
  have F_law_check := fun_mk (st := d_law_check) l_law_check x_law_check k_law_check
  have b_law_check := F_law_check.binds (ps := ["_law_source_here"]) fun _ _ _ _ _ _ us hl => match us, hl with | [_], _ => rfl
  have F_law := fun_mk (st := d_law) l_law x_law k_law
  have b_law := F_law.binds (ps := ["_law_script"]) fun _ _ _ _ _ _ us hl => match us, hl with | [_], _ => rfl
  let T : Tx K mg := { f_is_integer := f_is_integer, fd_is_integer := _, F_is_integer := F_is_integer, b_is_integer := b_is_integer, g_is_integer := PySem.W.mg_of X G a_is_integer, f_is_seat := f_is_seat, fd_is_seat := _, F_is_seat := F_is_seat, b_is_seat := b_is_seat, g_is_seat := PySem.W.mg_of X G a_is_seat, f_require_seat := f_require_seat, fd_require_seat := _, F_require_seat := F_require_seat, b_require_seat := b_require_seat, g_require_seat := PySem.W.mg_of X G a_require_seat, f_require_seats := f_require_seats, fd_require_seats := _, F_require_seats := F_require_seats, b_require_seats := b_require_seats, g_require_seats := PySem.W.mg_of X G a_require_seats, f_require_targets := f_require_targets, fd_require_targets := _, F_require_targets := F_require_targets, b_require_targets := b_require_targets, g_require_targets := PySem.W.mg_of X G a_require_targets, f_Table_init := f_Table_init, fd_Table_init := _, F_Table_init := F_Table_init, b_Table_init := b_Table_init, f_Table_sizes := f_Table_sizes, fd_Table_sizes := _, F_Table_sizes := F_Table_sizes, b_Table_sizes := b_Table_sizes, f_Table_order := f_Table_order, fd_Table_order := _, F_Table_order := F_Table_order, b_Table_order := b_Table_order, f_Table_halves := f_Table_halves, fd_Table_halves := _, F_Table_halves := F_Table_halves, b_Table_halves := b_Table_halves, f_sizes_of := f_sizes_of, fd_sizes_of := _, F_sizes_of := F_sizes_of, b_sizes_of := b_sizes_of, g_sizes_of := PySem.W.mg_of X G a_sizes_of, f_all_choices := f_all_choices, fd_all_choices := _, F_all_choices := F_all_choices, b_all_choices := b_all_choices, g_all_choices := PySem.W.mg_of X G a_all_choices, f_are_sizes := f_are_sizes, fd_are_sizes := _, F_are_sizes := F_are_sizes, b_are_sizes := b_are_sizes, g_are_sizes := PySem.W.mg_of X G a_are_sizes, f_half_places := f_half_places, fd_half_places := _, F_half_places := F_half_places, b_half_places := b_half_places, g_half_places := PySem.W.mg_of X G a_half_places, f_weighted_sum := f_weighted_sum, fd_weighted_sum := _, F_weighted_sum := F_weighted_sum, b_weighted_sum := b_weighted_sum, g_weighted_sum := PySem.W.mg_of X G a_weighted_sum, f_common_divisor := f_common_divisor, fd_common_divisor := _, F_common_divisor := F_common_divisor, b_common_divisor := b_common_divisor, g_common_divisor := PySem.W.mg_of X G a_common_divisor, f_odd_part := f_odd_part, fd_odd_part := _, F_odd_part := F_odd_part, b_odd_part := b_odd_part, g_odd_part := PySem.W.mg_of X G a_odd_part, f_difference := f_difference, fd_difference := _, F_difference := F_difference, b_difference := b_difference, g_difference := PySem.W.mg_of X G a_difference, f_shift_basis := f_shift_basis, fd_shift_basis := _, F_shift_basis := F_shift_basis, b_shift_basis := b_shift_basis, g_shift_basis := PySem.W.mg_of X G a_shift_basis, f_pivot_product := f_pivot_product, fd_pivot_product := _, F_pivot_product := F_pivot_product, b_pivot_product := b_pivot_product, g_pivot_product := PySem.W.mg_of X G a_pivot_product, f_inverse_column := f_inverse_column, fd_inverse_column := _, F_inverse_column := F_inverse_column, b_inverse_column := b_inverse_column, g_inverse_column := PySem.W.mg_of X G a_inverse_column, f_diagonal := f_diagonal, fd_diagonal := _, F_diagonal := F_diagonal, b_diagonal := b_diagonal, g_diagonal := PySem.W.mg_of X G a_diagonal, f_with_vector := f_with_vector, fd_with_vector := _, F_with_vector := F_with_vector, b_with_vector := b_with_vector, g_with_vector := PySem.W.mg_of X G a_with_vector, f_reduced := f_reduced, fd_reduced := _, F_reduced := F_reduced, b_reduced := b_reduced, g_reduced := PySem.W.mg_of X G a_reduced, f_coset_count := f_coset_count, fd_coset_count := _, F_coset_count := F_coset_count, b_coset_count := b_coset_count, g_coset_count := PySem.W.mg_of X G a_coset_count, f_reach := f_reach, fd_reach := _, F_reach := F_reach, b_reach := b_reach, g_reach := PySem.W.mg_of X G a_reach, f_short_witness := f_short_witness, fd_short_witness := _, F_short_witness := F_short_witness, b_short_witness := b_short_witness, g_short_witness := PySem.W.mg_of X G a_short_witness, f_law_mixed := f_law_mixed, fd_law_mixed := _, F_law_mixed := F_law_mixed, b_law_mixed := b_law_mixed, g_law_mixed := PySem.W.mg_of X G a_law_mixed, f_law_source := f_law_source, fd_law_source := _, F_law_source := F_law_source, b_law_source := b_law_source, g_law_source := PySem.W.mg_of X G a_law_source, f_law_take := f_law_take, fd_law_take := _, F_law_take := F_law_take, b_law_take := b_law_take, g_law_take := PySem.W.mg_of X G a_law_take, f_law_odd_part := f_law_odd_part, fd_law_odd_part := _, F_law_odd_part := F_law_odd_part, b_law_odd_part := b_law_odd_part, g_law_odd_part := PySem.W.mg_of X G a_law_odd_part, f_law_sum := f_law_sum, fd_law_sum := _, F_law_sum := F_law_sum, b_law_sum := b_law_sum, g_law_sum := PySem.W.mg_of X G a_law_sum, f_law_times := f_law_times, fd_law_times := _, F_law_times := F_law_times, b_law_times := b_law_times, g_law_times := PySem.W.mg_of X G a_law_times, f_law_seat := f_law_seat, fd_law_seat := _, F_law_seat := F_law_seat, b_law_seat := b_law_seat, g_law_seat := PySem.W.mg_of X G a_law_seat, f_law_sizes := f_law_sizes, fd_law_sizes := _, F_law_sizes := F_law_sizes, b_law_sizes := b_law_sizes, g_law_sizes := PySem.W.mg_of X G a_law_sizes, f_law_check := f_law_check, fd_law_check := _, F_law_check := F_law_check, b_law_check := b_law_check, g_law_check := PySem.W.mg_of X G a_law_check, f_law := fa, fd_law := _, F_law := F_law, b_law := b_law, g_law := PySem.W.mg_of X G a_law, c_Table := c_Table, g_Table := PySem.W.mg_of X G ac_Table, cl_Table := ⟨pg_Table, hd_Table, po_Table, sa_Table⟩, M_Table := ⟨mk_Table, a_Table_init, i_Table_init, kc_Table⟩, m_Table_sizes := ⟨a_Table_sizes, i_Table_sizes, k_Table_sizes⟩, m_Table_order := ⟨a_Table_order, i_Table_order, k_Table_order⟩, m_Table_halves := ⟨a_Table_halves, i_Table_halves, k_Table_halves⟩, no_Table_sizes := no_Table_sizes, ins_Table := ⟨⟨pg_Table, hd_Table, po_Table, sa_Table⟩, ih_Table, in_Table, it_Table, im_Table, kit_self _ _⟩, b_gcd := PySem.W.mg_of X G w_gcd, b_lcm := PySem.W.mg_of X G w_lcm, v_MAX_RINGS := _, g_MAX_RINGS := PySem.W.mg_of X G y_MAX_RINGS, r_MAX_RINGS := r_MAX_RINGS, n_all := PySem.W.mg_none_of X G z_all, n_bool := PySem.W.mg_none_of X G z_bool, n_enumerate := PySem.W.mg_none_of X G z_enumerate, n_int := PySem.W.mg_none_of X G z_int, n_isinstance := PySem.W.mg_none_of X G z_isinstance, n_len := PySem.W.mg_none_of X G z_len, n_list := PySem.W.mg_none_of X G z_list, n_range := PySem.W.mg_none_of X G z_range, n_reversed := PySem.W.mg_none_of X G z_reversed, n_set := PySem.W.mg_none_of X G z_set, n_sum := PySem.W.mg_none_of X G z_sum, n_tuple := PySem.W.mg_none_of X G z_tuple, n_zip := PySem.W.mg_none_of X G z_zip }
  exact ⟨PySem.W.fnOf "law" "law" (defArgs d_law) (defBody d_law) (defScope d_law) .none kV_law dc_law pm_law an_law cd_law ct_law, fun s v => .of_eq rfl, fun base _ _ => ok_law (P := P) (w := w) (base := base) T⟩
end Lw
open PySem PySem.W PyProof.Rows in
set_option maxHeartbeats 0 in
theorem PySem.Challenge.cw_calledseats_k17_whole_one_target_holds : PySem.Challenge.rw_calledseats_k17_whole_one_target.Holds := by
  w_on; o_law; k_head; (case hw => w_witness2)
  k_fill
  refine L2.walk_ofB (l := PySem.Challenge.rw_calledseats_k17_whole_one_target) (n := 63) (k := 6) (x := "_law_script") (CX := fun _ => L2.CX0) (sp := fun w => Lw.sp_law _) rfl (by decide) rfl ⟨rfl, by decide, by decide⟩ (fun w h Y => PySem.W.kIn_of Y) ?F (fun _ _ a ns hl hb _ hS => ⟨a, ns, rfl, hS, hl, hb, fun _ => rfl⟩) (fun _ _ _ _ _ h => h)
  case F =>
    intro w mg fa h KX G hmg
    refine' Lw.all_mk KX G hmg ?ac_Table ?a_is_integer ?l_is_integer ?x_is_integer ?k_is_integer ?a_is_seat ?l_is_seat ?x_is_seat ?k_is_seat ?a_require_seat ?l_require_seat ?x_require_seat ?k_require_seat ?a_require_seats ?l_require_seats ?x_require_seats ?k_require_seats ?a_require_targets ?l_require_targets ?x_require_targets ?k_require_targets ?a_Table_init ?i_Table_init ?l_Table_init ?x_Table_init ?k_Table_init ?a_Table_sizes ?i_Table_sizes ?l_Table_sizes ?x_Table_sizes ?k_Table_sizes ?a_Table_order ?i_Table_order ?l_Table_order ?x_Table_order ?k_Table_order ?a_Table_halves ?i_Table_halves ?l_Table_halves ?x_Table_halves ?k_Table_halves ?a_sizes_of ?l_sizes_of ?x_sizes_of ?k_sizes_of ?a_all_choices ?l_all_choices ?x_all_choices ?k_all_choices ?a_are_sizes ?l_are_sizes ?x_are_sizes ?k_are_sizes ?a_half_places ?l_half_places ?x_half_places ?k_half_places ?a_weighted_sum ?l_weighted_sum ?x_weighted_sum ?k_weighted_sum ?a_common_divisor ?l_common_divisor ?x_common_divisor ?k_common_divisor ?a_odd_part ?l_odd_part ?x_odd_part ?k_odd_part ?a_difference ?l_difference ?x_difference ?k_difference ?a_shift_basis ?l_shift_basis ?x_shift_basis ?k_shift_basis ?a_pivot_product ?l_pivot_product ?x_pivot_product ?k_pivot_product ?a_inverse_column ?l_inverse_column ?x_inverse_column ?k_inverse_column ?a_diagonal ?l_diagonal ?x_diagonal ?k_diagonal ?a_with_vector ?l_with_vector ?x_with_vector ?k_with_vector ?a_reduced ?l_reduced ?x_reduced ?k_reduced ?a_coset_count ?l_coset_count ?x_coset_count ?k_coset_count ?a_reach ?l_reach ?x_reach ?k_reach ?a_short_witness ?l_short_witness ?x_short_witness ?k_short_witness ?a_law_mixed ?l_law_mixed ?x_law_mixed ?k_law_mixed ?a_law_source ?l_law_source ?x_law_source ?k_law_source ?a_law_take ?l_law_take ?x_law_take ?k_law_take ?a_law_odd_part ?l_law_odd_part ?x_law_odd_part ?k_law_odd_part ?a_law_sum ?l_law_sum ?x_law_sum ?k_law_sum ?a_law_times ?l_law_times ?x_law_times ?k_law_times ?a_law_seat ?l_law_seat ?x_law_seat ?k_law_seat ?a_law_sizes ?l_law_sizes ?x_law_sizes ?k_law_sizes ?a_law_check ?l_law_check ?x_law_check ?k_law_check ?a_law ?l_law ?x_law ?k_law ?pg_Table ?hd_Table ?po_Table ?sa_Table ?mk_Table ?kc_Table ?no_Table_sizes ?ih_Table ?in_Table ?it_Table ?im_Table ?w_gcd ?w_lcm ?y_MAX_RINGS ?r_MAX_RINGS ?z_all ?z_bool ?z_enumerate ?z_int ?z_isinstance ?z_len ?z_list ?z_range ?z_reversed ?z_set ?z_sum ?z_tuple ?z_zip
    (case ac_Table => k_is)
    (case a_is_integer => k_is)
    (case l_is_integer => k_is)
    (case x_is_integer => k_is)
    (case k_is_integer => k_is)
    (case a_is_seat => k_is)
    (case l_is_seat => k_is)
    (case x_is_seat => k_is)
    (case k_is_seat => k_is)
    (case a_require_seat => k_is)
    (case l_require_seat => k_is)
    (case x_require_seat => k_is)
    (case k_require_seat => k_is)
    (case a_require_seats => k_is)
    (case l_require_seats => k_is)
    (case x_require_seats => k_is)
    (case k_require_seats => k_is)
    (case a_require_targets => k_is)
    (case l_require_targets => k_is)
    (case x_require_targets => k_is)
    (case k_require_targets => k_is)
    (case a_Table_init => k_is)
    (case i_Table_init => k_is)
    (case l_Table_init => k_is)
    (case x_Table_init => k_is)
    (case k_Table_init => k_is)
    (case a_Table_sizes => k_is)
    (case i_Table_sizes => k_is)
    (case l_Table_sizes => k_is)
    (case x_Table_sizes => k_is)
    (case k_Table_sizes => k_is)
    (case a_Table_order => k_is)
    (case i_Table_order => k_is)
    (case l_Table_order => k_is)
    (case x_Table_order => k_is)
    (case k_Table_order => k_is)
    (case a_Table_halves => k_is)
    (case i_Table_halves => k_is)
    (case l_Table_halves => k_is)
    (case x_Table_halves => k_is)
    (case k_Table_halves => k_is)
    (case a_sizes_of => k_is)
    (case l_sizes_of => k_is)
    (case x_sizes_of => k_is)
    (case k_sizes_of => k_is)
    (case a_all_choices => k_is)
    (case l_all_choices => k_is)
    (case x_all_choices => k_is)
    (case k_all_choices => k_is)
    (case a_are_sizes => k_is)
    (case l_are_sizes => k_is)
    (case x_are_sizes => k_is)
    (case k_are_sizes => k_is)
    (case a_half_places => k_is)
    (case l_half_places => k_is)
    (case x_half_places => k_is)
    (case k_half_places => k_is)
    (case a_weighted_sum => k_is)
    (case l_weighted_sum => k_is)
    (case x_weighted_sum => k_is)
    (case k_weighted_sum => k_is)
    (case a_common_divisor => k_is)
    (case l_common_divisor => k_is)
    (case x_common_divisor => k_is)
    (case k_common_divisor => k_is)
    (case a_odd_part => k_is)
    (case l_odd_part => k_is)
    (case x_odd_part => k_is)
    (case k_odd_part => k_is)
    (case a_difference => k_is)
    (case l_difference => k_is)
    (case x_difference => k_is)
    (case k_difference => k_is)
    (case a_shift_basis => k_is)
    (case l_shift_basis => k_is)
    (case x_shift_basis => k_is)
    (case k_shift_basis => k_is)
    (case a_pivot_product => k_is)
    (case l_pivot_product => k_is)
    (case x_pivot_product => k_is)
    (case k_pivot_product => k_is)
    (case a_inverse_column => k_is)
    (case l_inverse_column => k_is)
    (case x_inverse_column => k_is)
    (case k_inverse_column => k_is)
    (case a_diagonal => k_is)
    (case l_diagonal => k_is)
    (case x_diagonal => k_is)
    (case k_diagonal => k_is)
    (case a_with_vector => k_is)
    (case l_with_vector => k_is)
    (case x_with_vector => k_is)
    (case k_with_vector => k_is)
    (case a_reduced => k_is)
    (case l_reduced => k_is)
    (case x_reduced => k_is)
    (case k_reduced => k_is)
    (case a_coset_count => k_is)
    (case l_coset_count => k_is)
    (case x_coset_count => k_is)
    (case k_coset_count => k_is)
    (case a_reach => k_is)
    (case l_reach => k_is)
    (case x_reach => k_is)
    (case k_reach => k_is)
    (case a_short_witness => k_is)
    (case l_short_witness => k_is)
    (case x_short_witness => k_is)
    (case k_short_witness => k_is)
    (case a_law_mixed => k_is)
    (case l_law_mixed => k_is)
    (case x_law_mixed => k_is)
    (case k_law_mixed => k_is)
    (case a_law_source => k_is)
    (case l_law_source => k_is)
    (case x_law_source => k_is)
    (case k_law_source => k_is)
    (case a_law_take => k_is)
    (case l_law_take => k_is)
    (case x_law_take => k_is)
    (case k_law_take => k_is)
    (case a_law_odd_part => k_is)
    (case l_law_odd_part => k_is)
    (case x_law_odd_part => k_is)
    (case k_law_odd_part => k_is)
    (case a_law_sum => k_is)
    (case l_law_sum => k_is)
    (case x_law_sum => k_is)
    (case k_law_sum => k_is)
    (case a_law_times => k_is)
    (case l_law_times => k_is)
    (case x_law_times => k_is)
    (case k_law_times => k_is)
    (case a_law_seat => k_is)
    (case l_law_seat => k_is)
    (case x_law_seat => k_is)
    (case k_law_seat => k_is)
    (case a_law_sizes => k_is)
    (case l_law_sizes => k_is)
    (case x_law_sizes => k_is)
    (case k_law_sizes => k_is)
    (case a_law_check => k_is)
    (case l_law_check => k_is)
    (case x_law_check => k_is)
    (case k_law_check => k_is)
    (case a_law => k_is)
    (case l_law => k_is)
    (case x_law => k_is)
    (case k_law => k_is)
    (case pg_Table => k_is)
    (case hd_Table => k_is)
    (case po_Table => k_is)
    (case sa_Table => k_is)
    (case mk_Table => k_is)
    (case kc_Table => k_is)
    (case no_Table_sizes => k_is)
    (case ih_Table => k_is)
    (case in_Table => k_is)
    (case it_Table => k_is)
    (case im_Table => k_is)
    (case w_gcd => k_is)
    (case w_lcm => k_is)
    (case y_MAX_RINGS => k_is)
    (case r_MAX_RINGS => exact ⟨_, rfl⟩)
    (case z_all => k_is)
    (case z_bool => k_is)
    (case z_enumerate => k_is)
    (case z_int => k_is)
    (case z_isinstance => k_is)
    (case z_len => k_is)
    (case z_list => k_is)
    (case z_range => k_is)
    (case z_reversed => k_is)
    (case z_set => k_is)
    (case z_sum => k_is)
    (case z_tuple => k_is)
    (case z_zip => k_is)

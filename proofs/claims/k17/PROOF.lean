import PyProof.Rows.All
import Wide.All
import OpenK.AllK
import Wide.FinOn
import HandS.ForMost
import HandS.IsInst
import HandS.Property
import HandS.Strs
import HandS.Style
import HandS.Star
import HandS.RaiseMore
import HandS.Conv
import HandS.Lambda
import HandS.SortKw
import HandS.NoneIn
import HandS.Zip
import HandS.Walk
import HandS.EndTab
import HandS.Nested
import KE.GoesMore
import KE.GoesZip
import KE.GoesEnum
import KE.SortKeyHeap
import PySem.Challenge.RW_firstbore_k17_worlds_known_by_hand
import HandS.Defaults
import HandS.WideMore
import HandS.Small
import HandS.Evl
import HandS.Rev
import HandS.TupMul
import HandS.TupLe
import KE.KNestM
set_option Elab.async false
set_option maxRecDepth 100000
set_option maxHeartbeats 16000000
/-! What all proofs of this program share: a heap that grows (Up), values by kinds (Kd, Ty), data of people and meetings. -/
namespace FB
open PySem L2

/-! ### a heap that grows: all but the tables of code objects stays, and the tables stay such -/
abbrev Tb := List (Addr × Str)
def Up (T : Tb) (H H' : Hp) : Prop := LamX.ExtN H H' ∧ (LamX.Tabs T H → LamX.Tabs T H')
section
variable {T : Tb} {H H1 H2 H' : Hp} {a p : Addr} {o u : HO} {xs : List V} {K : PySem.W.Frag}
theorem Up.refl (H : Hp) : Up T H H := ⟨fun _ _ h _ => h, id⟩
theorem Up.trans (a : Up T H H1) (b : Up T H1 H2) : Up T H H2 := ⟨a.1.trans b.1, fun t => b.2 (a.2 t)⟩
theorem Up.new (h : H p = none) : Up T H (upd H p o) := by
  have e : ∀ b o', H b = some o' → upd H p o b = some o' := fun b o' q => by
    rw [upd_ne (ne_of_none q h)]
    exact q
  exact ⟨fun b o' q _ => e b o' q, fun t => t.ext e⟩
theorem Up.get (e : Up T H H') (h : H a = some o) (n : ∀ ps, o ≠ .tbl ps) : H' a = some o := e.1 a o h n
theorem Up.l (e : Up T H H') (h : H a = some (.lst xs)) : H' a = some (.lst xs) := e.get h fun _ z => nomatch z
theorem Up.t (e : Up T H H') (h : H a = some (.tup xs)) : H' a = some (.tup xs) := e.get h fun _ z => nomatch z
theorem Up.i {C dx : Addr} {fs : List (Str × V)} (e : Up T H H') (h : H a = some (.ins C dx fs)) : H' a = some (.ins C dx fs) := e.get h fun _ z => nomatch z
theorem Up.sl (e : Up T H H') (h : SqL K H a xs) : SqL K H' a xs := by
  rcases h with (h | ⟨o, h⟩) | h
  · exact .inl (.inl (e.l h))
  · exact .inl (.inr ⟨o, e.get h fun _ z => nomatch z⟩)
  · exact .inr h
theorem Up.st (e : Up T H H') (h : SqT K H a xs) : SqT K H' a xs := by
  rcases h with (h | ⟨o, h⟩) | h
  · exact .inl (.inl (e.t h))
  · exact .inl (.inr ⟨o, e.get h fun _ z => nomatch z⟩)
  · exact .inr h
/-- what is no table may not be known later on only if it was not known before -/
theorem Up.gone (e : Up T H H') (h : H' a = .none) : (∃ ps, H a = some (.tbl ps)) ∨ H a = .none := by
  cases q : H a with
  | none => exact .inr rfl
  | some o =>
    by_cases hn : ∀ ps, o ≠ .tbl ps
    · have := e.get q hn
      rw [h] at this
      cases this
    · have ⟨ps, hp⟩ : ∃ ps, o = .tbl ps := by
        cases o with
        | tbl ps => exact ⟨ps, rfl⟩
        | _ => exact absurd (fun ps z => nomatch z) hn
      exact .inl ⟨ps, by rw [hp]⟩
/-- an object that H does not know changes -/
theorem Up.mutL (e : Up T H H') (h : H p = .none) (h' : H' p = some (.lst xs)) : Up T H (upd H' p u) := by
  refine ⟨fun b o q n => ?_, fun t => ?_⟩
  · rw [upd_ne (ne_of_none q h)]
    exact e.1 b o q n
  · intro q hq
    obtain ⟨ps, a1, a2, a3⟩ := e.2 t q hq
    have n1 : q.1 ≠ p := fun z => by
      rw [z, h'] at a1
      cases a1
    refine ⟨ps, by rw [upd_ne n1]; exact a1, a2, fun pos cv hc => ?_⟩
    obtain ⟨c, e1, e2⟩ := a3 pos cv hc
    have n2 : c ≠ p := fun z => by
      rw [z, h'] at e2
      unfold LamX.CodeO at e2
      cases e2
    exact ⟨c, e1, by rw [upd_ne n2]; exact e2⟩
end
/-- what is not there later was not there before: an address free in a grown heap is no list, tuple or instance of the old one -/
theorem Up.ne {T : Tb} {H H' : Hp} {a p : Addr} {o : HO} (e : Up T H H') (h : H a = some o) (n : ∀ ps, o ≠ .tbl ps) (hp : H' p = none) : a ≠ p := ne_of_none (e.get h n) hp

/-! ### promises: what is handed back stands in a grown heap -/
/-- R: from the arguments and the heap to what is said of the answer and the heap behind -/
def FSp (T : Tb) (R : List V → Hp → (V → Hp → Prop) → Prop) : Sp := fun vs H Q _ => ∃ Post, R vs H Post ∧ ∀ v H', Up T H H' → Post v H' → Q v H'
def isV (v : V) : V → Hp → Prop := fun x _ => x = v
/-- a value told alone -/
def VSp (T : Tb) (R : List V → Hp → V → Prop) : Sp := fun vs H Q _ => ∃ v, R vs H v ∧ ∀ H', Up T H H' → Q v H'

/-! ### defs, methods, properties, classes by their names -/
section
variable (P : Program) (w : World) (K : PySem.W.Frag) (mg : Str → Option Value) (base : Heap)
def CalF (x : Str) (k : Nat) (ps : List Str) (sp : Sp) : Prop := ∃ (f : Addr) (fd : FuncData), FnOk P w K mg base CX0 k f fd ps sp ∧ mg x = some (.ref f) ∧ PySem.W.keepIn K (.ref f) = true ∧ Binds K fd ps []
def MetF (C : Addr) (m : Str) (k : Nat) (ps : List Str) (sp : Sp) : Prop := ∃ (f : Addr) (fd : FuncData), FnOk P w K mg base CX0 k f fd ps sp ∧ Meth K C m f ∧ Binds K fd ps []
def PrpF (C : Addr) (m : Str) (k : Nat) (ps : List Str) (sp : Sp) : Prop := ∃ (p g : Addr) (fd : FuncData), FnOk P w K mg base CX0 k g fd ps sp ∧ PropOf K C m p g ∧ Binds K fd ps []
def MakF (x : Str) (C : Addr) (k : Nat) (ps : List Str) (ds : List V) (sp : Sp) : Prop := ∃ (f : Addr) (fd : FuncData) (us : List Value), FnOk P w K mg base CX0 k f fd ps sp ∧ Mk K C f ∧ mg x = some (.ref C) ∧ Binds K fd ps us ∧ Vals ds us
end
section
variable {X : Cx} {x m : Str} {k j : Nat} {C : Addr} {ps : List Str} {sp : Sp} {e o : Expr} {es : List Expr} {p pos apos : Pos} {t : TA} {ta : TE} {ds : List V}
theorem pe_c (c : CalF X.prog X.w X.K X.mg X.base x k ps sp) (hr : Room j X.A) (hk : k ≤ j) (hg : Gl X x) (ha : PA X (e :: es) t) (hdb : (x == ("__debug__" : Str)) = false := by decide)
    (he : starEach (e :: es) X.env = (false, eval e X.env) :: starEach es X.env := by rfl) (hpl : (backTo pos (starEach es X.env)).any (·.1) = false := by rfl) : PE X (.Call (.Name x p) (e :: es) [] pos) (tCall sp [] E0 t) := by
  obtain ⟨f, fd, F, hm, hkp, hb⟩ := c
  exact pe_call F (hr.mono hk) hg hm hkp hb .nil pass0 ha hdb he hpl
theorem pe_m {pl : Sem Bool} (he : PE X o ta) (c : Cls X.K C) (M : MetF X.prog X.w X.K X.mg X.base C m k ps sp) (hr : Room j X.A) (hk : k ≤ j) (ha : PA X (e :: es) t)
    (hst : starEach (e :: es) X.env = (false, eval e X.env) :: starEach es X.env := by rfl) (hpl : (backTo pos (starEach es X.env)).any (·.1) = false := by rfl)
    (ht : eval (.Call (.Attribute o m apos) (e :: es) [] pos) X.env = (do
      let ov ← eval o X.env
      standAt apos.atName
      let (f, first) ← holding [ov] (getMethod ov m pl)
      callWith pos f first (backTo pos (starEach (e :: es) X.env)) (backToKw pos (keywordEach [] X.env))) := by rfl) :
    PE X (.Call (.Attribute o m apos) (e :: es) [] pos) (tMeth C m sp [] E0 ta t) := by
  obtain ⟨f, fd, F, hm, hb⟩ := M
  exact pe_meth he c hm F (hr.mono hk) hb .nil pass0 ha hst hpl ht
theorem pe_p (he : PE X e ta) (c : Cls X.K C) (M : PrpF X.prog X.w X.K X.mg X.base C m k ps sp) (hr : Room j X.A) (hk : k + 1 ≤ j)
    (hab : attributeBase e m X.env (eval e X.env) = eval e X.env := by rfl) : PE X (.Attribute e m pos) (tProp C sp [] E0 ta) := by
  obtain ⟨pp, g, fd, F, hp, hb⟩ := M
  exact pe_prop he c hp F (hr.mono hk) hb .nil (fun _ _ _ _ _ _ _ h => h.elim) hab
theorem pe_mk (M : MakF X.prog X.w X.K X.mg X.base x C k ps ds sp) (hr : Room j X.A) (hk : k + 1 ≤ j) (hg : Gl X x) (ha : PA X (e :: es) t) (hdb : (x == ("__debug__" : Str)) = false := by decide)
    (he : starEach (e :: es) X.env = (false, eval e X.env) :: starEach es X.env := by rfl) (hpl : (backTo pos (starEach es X.env)).any (·.1) = false := by rfl) : PE X (.Call (.Name x p) (e :: es) [] pos) (tMake C sp ds E0 t) := by
  obtain ⟨f, fd, us, F, hm, hmg, hb, hv⟩ := M
  exact pe_make hm F (hr.mono hk) hg hmg hb hv pass0 ha hdb he hpl
/-- a constant of the module -/
theorem pe_g {v : V} (h : ∃ u, X.mg x = some u ∧ RelV v u) (hg : Gl X x) (hd : (x == ("__debug__" : Str)) = false := by decide) : PE X (.Name x pos) (tC v) := by
  obtain ⟨u, h1, h2⟩ := h
  exact pe_glob hg h1 h2 hd
end

/-! ### kinds of values -/
inductive Kd | non | bl | int | str | tup | lst
def Kd.nm : Kd → String
  | .non => "NoneType" | .bl => "bool" | .int => "int" | .str => "str" | .tup => "tuple" | .lst => "list"
inductive Ty (H : Hp) : V → Kd → Prop
  | non : Ty H .non .non
  | bl (b : Bool) : Ty H (.bl b) .bl
  | int (i : Int) : Ty H (.int i) .int
  | str (z : Str) : Ty H (.str z) .str
  | tup {a : Addr} {xs : List V} (h : H a = some (.tup xs)) : Ty H (.ref a) .tup
  | lst {a : Addr} {xs : List V} (h : H a = some (.lst xs)) : Ty H (.ref a) .lst
theorem Ty.x {K : PySem.W.Frag} {H : Hp} {v : V} {k : Kd} (t : Ty H v k) : TyX K H v (.type k.nm) := by
  cases t with
  | non => exact .base .non
  | bl b => exact .base (.bl b)
  | int i => exact .base (.int i)
  | str z => exact .base (.str z)
  | tup h => exact .base (.tup h)
  | lst h => exact .base (.lst h)
theorem Ty.up {T : Tb} {H H' : Hp} {v : V} {k : Kd} (t : Ty H v k) (e : Up T H H') : Ty H' v k := by
  cases t with
  | non => exact .non
  | bl b => exact .bl b
  | int i => exact .int i
  | str z => exact .str z
  | tup h => exact .tup (e.t h)
  | lst h => exact .lst (e.l h)
def Kd.isInt : Kd → Bool | .int => true | .bl => true | _ => false
def Kd.isBl : Kd → Bool | .bl => true | _ => false
def Kd.isStr : Kd → Bool | .str => true | _ => false
def Kd.isTup : Kd → Bool | .tup => true | _ => false
def Kd.isLst : Kd → Bool | .lst => true | _ => false
theorem kit_int (k : Kd) : kitB k.nm "int" = some k.isInt := by cases k <;> decide +kernel
theorem kit_bl (k : Kd) : kitB k.nm "bool" = some k.isBl := by cases k <;> decide +kernel
theorem kit_str (k : Kd) : kitB k.nm "str" = some k.isStr := by cases k <;> decide +kernel
theorem kit_tup (k : Kd) : kitB k.nm "tuple" = some k.isTup := by cases k <;> decide +kernel
theorem kit_lst (k : Kd) : kitB k.nm "list" = some k.isLst := by cases k <;> decide +kernel
/-- isinstance(x, c), the reading -/
theorem isi {K : PySem.W.Frag} {H : Hp} {v : V} {k : Kd} {n : String} {b : Bool} {Q : VK} (t : Ty H v k) (h : kitB k.nm n = some b) (q : Q (.bl b) H) : rIsi K [v, .ty n] H Q :=
  ⟨v, .ty n, _, _, b, rfl, .ty n, t.x, kit_ty h, q⟩

/-! ### rows of things -/
def AllV {α : Type} (R : V → α → Prop) (xs : List V) (as : List α) : Prop := xs.length = as.length ∧ ∀ (i : Nat) (x : V) (a : α), xs[i]? = some x → as[i]? = some a → R x a
section
variable {α : Type} {R R' : V → α → Prop} {xs : List V} {as : List α}
theorem AllV.mono (h : AllV R xs as) (f : ∀ x a, R x a → R' x a) : AllV R' xs as := ⟨h.1, fun i x a e1 e2 => f x a (h.2 i x a e1 e2)⟩
theorem AllV.nil : AllV R [] [] := ⟨rfl, fun i x a e => by simp at e⟩
theorem AllV.cons {x : V} {a : α} (h : R x a) (t : AllV R xs as) : AllV R (x :: xs) (a :: as) := by
  refine ⟨by simp [t.1], fun i y b e1 e2 => ?_⟩
  cases i with
  | zero =>
    simp at e1 e2
    subst e1 e2
    exact h
  | succ i => exact t.2 i y b (by simpa using e1) (by simpa using e2)
theorem AllV.get (h : AllV R xs as) {i : Nat} {x : V} (e : xs[i]? = some x) : ∃ a, as[i]? = some a ∧ R x a := by
  have h1 := (List.getElem?_eq_some_iff.mp e).1
  have h2 : i < as.length := by rw [← h.1]; exact h1
  exact ⟨as[i], List.getElem?_eq_getElem h2, h.2 i x _ e (List.getElem?_eq_getElem h2)⟩
theorem AllV.get' (h : AllV R xs as) {i : Nat} {a : α} (e : as[i]? = some a) : ∃ x, xs[i]? = some x ∧ R x a := by
  have h1 := (List.getElem?_eq_some_iff.mp e).1
  have h2 : i < xs.length := by rw [h.1]; exact h1
  exact ⟨xs[i], List.getElem?_eq_getElem h2, h.2 i _ a (List.getElem?_eq_getElem h2) e⟩
theorem AllV.append {ys : List V} {bs : List α} (h : AllV R xs as) (t : AllV R ys bs) : AllV R (xs ++ ys) (as ++ bs) := by
  refine ⟨by simp [h.1, t.1], fun i y b e1 e2 => ?_⟩
  by_cases hi : i < xs.length
  · rw [List.getElem?_append_left hi] at e1
    rw [List.getElem?_append_left (by rw [← h.1]; exact hi)] at e2
    exact h.2 i y b e1 e2
  · rw [List.getElem?_append_right (by omega)] at e1
    rw [List.getElem?_append_right (by rw [← h.1]; omega), ← h.1] at e2
    exact t.2 _ y b e1 e2
end

/-! ### people and meetings -/
structure Per where
  nm : Str
  wt : Int
  sh : Int
  sp : Option (Int × Int)
structure Mee where
  dy : Int
  a : Str
  b : Str
def SpanV (H : Hp) (v : V) : Option (Int × Int) → Prop
  | none => v = .non
  | some p => ∃ t, v = .ref t ∧ H t = some (.tup [.int p.1, .int p.2])
def PerV (H : Hp) (v : V) (p : Per) : Prop := ∃ t s, v = .ref t ∧ H t = some (.tup [.str p.nm, .int p.wt, .int p.sh, s]) ∧ SpanV H s p.sp
def MeeV (H : Hp) (v : V) (m : Mee) : Prop := ∃ t, v = .ref t ∧ H t = some (.tup [.int m.dy, .str m.a, .str m.b])
section
variable {T : Tb} {H H' : Hp} {v : V} (e : Up T H H')
include e
theorem SpanV.up {s : Option (Int × Int)} (h : SpanV H v s) : SpanV H' v s := by
  cases s with
  | none => exact h
  | some p =>
    obtain ⟨t, h1, h2⟩ := h
    exact ⟨t, h1, e.t h2⟩
theorem PerV.up {p : Per} (h : PerV H v p) : PerV H' v p := by
  obtain ⟨t, s, h1, h2, h3⟩ := h
  exact ⟨t, s, h1, e.t h2, SpanV.up e h3⟩
theorem MeeV.up {m : Mee} (h : MeeV H v m) : MeeV H' v m := by
  obtain ⟨t, h1, h2⟩ := h
  exact ⟨t, h1, e.t h2⟩
end
/-- a list or tuple -/
def Seq (H : Hp) (v : V) (xs : List V) : Prop := ∃ a, v = .ref a ∧ (H a = some (.lst xs) ∨ H a = some (.tup xs))
theorem Seq.up {T : Tb} {H H' : Hp} {v : V} {xs : List V} (e : Up T H H') (h : Seq H v xs) : Seq H' v xs := by
  obtain ⟨a, h1, h2⟩ := h
  exact ⟨a, h1, h2.imp e.l e.t⟩
end FB

set_option Elab.async false
set_option maxRecDepth 100000
set_option maxHeartbeats 16000000
/-! Walks over lists and tuples alike: for x in s, for i, x in enumerate(s), for a, b, c in zip(s, t, u). -/
namespace FB
open PySem L2 PySem.Spec PyProof.Rows

/-- a list (true) or a tuple (false) by its address -/
abbrev Sq := Bool × Addr
def SqK (K : PySem.W.Frag) (H : Hp) (c : Sq) (xs : List V) : Prop := if c.1 = true then SqL K H c.2 xs else SqT K H c.2 xs
def ItAt (h : Heap) (it : Addr) (c : Sq) (i : Nat) : Prop := if c.1 = true then h.IsListIter it c.2 i else h.IsTupleIter it c.2 i
def PlAt (c : Sq) (its : Array Value) (h : Heap) : Prop := if c.1 = true then h.IsList c.2 its else h.IsTuple c.2 its
def itObj (c : Sq) : Obj := { cls := .type (if c.1 = true then "list_iterator" else "tuple_iterator"), data := .fields #[.ref c.2, .int 0 0] }
theorem SqK.up {T : Tb} {K : PySem.W.Frag} {H H' : Hp} {c : Sq} {xs : List V} (e : Up T H H') (h : SqK K H c xs) : SqK K H' c xs := by
  obtain ⟨b, a⟩ := c
  cases b with
  | true => exact e.sl (show SqL K H a xs from h)
  | false => exact e.st (show SqT K H a xs from h)
theorem Seq.sq {K : PySem.W.Frag} {H : Hp} {v : V} {xs : List V} (h : Seq H v xs) : ∃ c : Sq, v = .ref c.2 ∧ SqK K H c xs := by
  obtain ⟨a, h1, h2 | h2⟩ := h
  · exact ⟨(true, a), h1, show SqL K H a xs from .of h2⟩
  · exact ⟨(false, a), h1, show SqT K H a xs from .of h2⟩
section
variable {X : Cx} {pins : List (Addr × Obj)} {σ : L2.St} {H : Hp} {s : Shared} {c : Sq} {xs ys : List V}
theorem sqk_at (I : Inv X pins σ H s) (h : SqK X.K H c xs) : ∃ its : List Value, Vals xs its ∧ PlAt c its.toArray s.heap ∧ c.2 < s.heap.objs.size := by
  obtain ⟨b, a⟩ := c
  cases b with
  | true =>
    obtain ⟨its, rv, p, _⟩ := I.list (show SqL X.K H a xs from h)
    exact ⟨its, rv, (show s.heap.IsList a its.toArray from p.isList), p.lt⟩
  | false =>
    obtain ⟨its, rv, p, _⟩ := I.tuple (show SqT X.K H a xs from h)
    have p' : s.heap.IsTuple a its.toArray := p
    obtain ⟨o, ho, r⟩ := id p'
    exact ⟨its, rv, p', Heap.lt_size ho⟩
theorem sqk_inj (I : Inv X pins σ H s) (h : SqK X.K H c xs) (h' : SqK X.K H c ys) : xs = ys := by
  obtain ⟨b, a⟩ := c
  cases b with
  | true => exact I.list_inj (show SqL X.K H a xs from h) (show SqL X.K H a ys from h')
  | false => exact I.tuple_inj (show SqT X.K H a xs from h) (show SqT X.K H a ys from h')
end
theorem ItAt.at {h h' : Heap} {it : Addr} {c : Sq} {i : Nat} (x : ItAt h it c i) (e : ∀ o, h.get? it = some o → h'.get? it = some o) : ItAt h' it c i := by
  obtain ⟨b, a⟩ := c
  cases b with
  | true => exact (show h.IsListIter it a i from x).at e
  | false => exact (show h.IsTupleIter it a i from x).at e
theorem ItAt.live {h : Heap} {it : Addr} {c : Sq} {i : Nat} (x : ItAt h it c i) : ∃ o, h.get? it = some o ∧ ∀ v, o.data ≠ .cell v := by
  obtain ⟨b, a⟩ := c
  cases b with
  | true =>
    obtain ⟨o, h1, _, h2⟩ := (show h.IsListIter it a i from x)
    exact ⟨o, h1, fun v q => by rw [h2] at q; cases q⟩
  | false =>
    obtain ⟨o, h1, _, h2⟩ := (show h.IsTupleIter it a i from x)
    exact ⟨o, h1, fun v q => by rw [h2] at q; cases q⟩
theorem itAt_new {h : Heap} {it : Addr} {c : Sq} (e : h.get? it = some (itObj c)) : ItAt h it c 0 := by
  obtain ⟨b, a⟩ := c
  cases b with
  | true => exact (show h.IsListIter it a 0 from ⟨_, e, rfl, rfl⟩)
  | false => exact (show h.IsTupleIter it a 0 from ⟨_, e, rfl, rfl⟩)
theorem drawsK {prog : Program} {w : World} {A : Around} (hh : A.handled = none) (it : Addr) (c : Sq) (hne : c.2 ≠ it) (items : Array Value) :
    Draws prog w A it [it, c.2] items.size (fun i v => items[i]? = some v) (fun i h => ItAt h it c i ∧ PlAt c items h) := by
  obtain ⟨b, a⟩ := c
  cases b with
  | true => exact Draws.list hh it a hne items
  | false => exact Draws.tuple hh it a hne items
theorem begK (c : Sq) (items : Array Value) : Begins (.ref c.2) (itObj c) (PlAt c items) := by
  obtain ⟨b, a⟩ := c
  cases b with
  | true => exact begins_list a items
  | false => exact begins_tuple a items

/-! ### for x in s -/
/-- what is walked, the walk's way of telling it -/
def Itq (K : PySem.W.Frag) (c : Sq) : It := if c.1 = true then Itl K c.2 else Itt K c.2
theorem walk_sq {K : PySem.W.Frag} {c : Sq} {xs : List V} : Walk (Itq K c) xs.length (fun H => SqK K H c xs) (YAt xs) := by
  obtain ⟨b, a⟩ := c
  cases b with
  | true => exact walk_list
  | false => exact walk_tup
def iSq (K : PySem.W.Frag) (tl : TE) : TI := fun σ H R => tl σ H fun x H1 => ∃ (c : Sq) (xs : List V), x = .ref c.2 ∧ SqK K H1 c xs ∧ R (Itq K c) H1
theorem pi_sq {X : Cx} {tg l : Expr} {tl : TE} (hl : PE X l tl) : PI X tg l (iSq X.K tl) := by
  refine ⟨fun pins s σ H R I h => ?_⟩
  refine thn (hl.run pins s σ H _ I h) fun v s1 ⟨x, H1, I1, r1, q1⟩ => ?_
  obtain ⟨c, xs, e, hq, q⟩ := q1
  subst e
  cases r1
  obtain ⟨b, a⟩ := c
  cases b with
  | true =>
    obtain ⟨its, rv, p, hz⟩ := I1.list (show SqL X.K H1 a xs from hq)
    refine wpAny_pyIter_list p.isList ?_
    refine ⟨s1.heap.objs.size, [s1.heap.objs.size], _, _, H1, rfl, I1.kept (t' := s1.toks) fun b o e => Heap.get?_push_of_some _ e, turn_list a _, ⟨_, Heap.get?_push_size _ rfl, rfl, rfl⟩, fun b hb => ?_, q⟩
    have e : b = s1.heap.objs.size := by simpa using hb
    subst e
    exact I1.fpOk (Nat.le_refl _) (I1.hok.fresh (Nat.le_refl _))
  | false =>
    obtain ⟨its, rv, p, hz⟩ := I1.tuple (show SqT X.K H1 a xs from hq)
    refine wpAny_pyIter_tuple (show s1.heap.IsTuple a its.toArray from p) ?_
    refine ⟨s1.heap.objs.size, [s1.heap.objs.size], _, _, H1, rfl, I1.kept (t' := s1.toks) fun b o e => Heap.get?_push_of_some _ e, turn_tuple a _, ⟨_, Heap.get?_push_size _ rfl, rfl, rfl⟩, fun b hb => ?_, q⟩
    have e : b = s1.heap.objs.size := by simpa using hb
    subst e
    exact I1.fpOk (Nat.le_refl _) (I1.hok.fresh (Nat.le_refl _))

/-! ### enumerate -/
def Itec (K : PySem.W.Frag) (c : Sq) : It :=
  ⟨fun i H => ∃ (xs : List V) (x : V), SqK K H c xs ∧ xs[i]? = some x, fun i H v H' => ∃ T x, v = .ref T ∧ H T = none ∧ H' = upd H T (.tup [.int (i : Nat), x]) ∧ ∀ xs, SqK K H c xs → xs[i]? = some x, fun i H => ∃ xs : List V, SqK K H c xs ∧ xs.length = i⟩
theorem turn_enumc {P : Program} {w : World} {K : PySem.W.Frag} {elts : List Expr} {kk : Nat} {tpos : Pos} (c : Sq) (e it : Addr) :
    Turn P w K (.Tuple elts kk tpos) (Itec K c) [e, it] e (fun i h => (∃ old, IsEnum h e it ((i : Nat) : Int) old) ∧ ItAt h it c i ∧ e ≠ it ∧ c.2 ≠ it ∧ c.2 ≠ e) where
  mem := by simp
  obj := fun i h st b hb => by
    obtain ⟨⟨old, he⟩, hi, _⟩ := st
    have e' : b = e ∨ b = it := by simpa using hb
    rcases e' with z | z
    · rw [z]; exact ⟨_, he, fun v q => nomatch q⟩
    · rw [z]; exact hi.live
  keep := fun i h h' st k => let ⟨⟨old, he⟩, hi, hne⟩ := st; ⟨⟨old, k e (by simp) _ he⟩, hi.at fun o q => k it (by simp) o q, hne⟩
  item := by
    intro X hP hw hK hc i pins s σ H E I hf st hg
    subst hP hw hK
    obtain ⟨⟨old, he⟩, hit, hne, hct, hce⟩ := st
    obtain ⟨xs, x, hq, hx⟩ := hg
    obtain ⟨its, rv, p, hz⟩ := sqk_at I hq
    obtain ⟨u, hu, ru⟩ := rv.get hx
    have hel : e < s.heap.objs.size := Heap.lt_size he
    have hil : it < s.heap.objs.size := by obtain ⟨_, q, _⟩ := hit.live; exact Heap.lt_size q
    have hlen := rv.length
    have hi : i < its.toArray.size := by rw [List.size_toArray]; exact (List.getElem?_eq_some_iff.mp hu).1
    have D := drawsK (prog := X.prog) (w := X.w) (A := X.A.in1) (I.ok.hd hc) it c hct its.toArray
    refine wpAny_pyNext_enum_itemC D he ⟨hit, p⟩ hi hne (by simp; exact ⟨hne, hce.symm⟩) fun x' h' tk hP ho hs' hT hsz hk => ?_
    have ex : x' = u := by
      have z : its.toArray[i]? = some u := by simpa using hu
      rw [hP] at z
      exact Option.some.inj z
    subst ex
    refine ⟨_, rfl, wpAny_letOwnedTupleGo_enum ho fun h'' he' sb => ?_⟩
    have hT2 : h''.get? s.heap.objs.size = some { cls := .type "tuple", data := .seq #[.int i tk, x'] } := (sb.2 _ (Nat.ne_of_gt hel)).trans hT
    have new : ObjOk X.prog X.w (upd H s.heap.objs.size (.tup [.int (i : Nat), x])) h'' s.heap.objs.size (.tup [.int (i : Nat), x]) :=
      ⟨by show 2 ≤ sizeLine; decide, [.int i tk, x'], .cons ⟨_, rfl⟩ (.cons ru .nil), ⟨_, hT2, rfl, _, rfl⟩⟩
    have I1 : Inv X pins σ (upd H s.heap.objs.size (.tup [.int (i : Nat), x])) { s with heap := h'', toks := tk + 1 } :=
      I.turnedNew (ch := [e, it]) (fun b ob hb q => (sb.2 b (fun z => hb (by simp [z]))).trans (hk b ob (fun z => hb (by simp [z])) (fun z => hb (by simp [z])) q)) hf (Nat.le_refl _) new
    refine ⟨.ref s.heap.objs.size, _, I1, rfl, ⟨_, x, rfl, I.hok.fresh (Nat.le_refl _), rfl, fun ys hy => by rw [sqk_inj I hy hq]; exact hx⟩, ⟨⟨x', ?_⟩, hs'.1.at fun o q => (sb.2 it (Ne.symm hne)).trans q, hne, hct, hce⟩, fun b hb => ?_⟩
    · have e1 : ((i + 1 : Nat) : Int) = (i : Int) + 1 := by omega
      rw [e1]; exact he'
    · have hb' : b < s.heap.objs.size := by
        have e' : b = e ∨ b = it := by simpa using hb
        rcases e' with z | z
        · rw [z]; exact hel
        · rw [z]; exact hil
      rw [upd_ne (Nat.ne_of_lt hb')]
      exact (hf b hb).1
  done := by
    intro X hP hw hK hc i pins s σ H E I hf st hg
    subst hP hw hK
    obtain ⟨⟨old, he⟩, hit, hne, hct, hce⟩ := st
    obtain ⟨xs, hq, hx⟩ := hg
    obtain ⟨its, rv, p, hz⟩ := sqk_at I hq
    obtain ⟨f0, f1, f2, f3, f4, f5⟩ := hf it (by simp)
    have hl := rv.length
    have D := drawsK (prog := X.prog) (w := X.w) (A := X.A.in1) (I.ok.hd hc) it c hct its.toArray
    have ei : i = its.toArray.size := by rw [List.size_toArray]; omega
    subst ei
    exact wpAny_pyNext_enum_endD D he ⟨hit, p⟩ fun h' eb => ⟨rfl, I.turned (t' := s.toks) (fun b o hb q => eb b o hb q) f0 f1 f3 f4 f5⟩
  self := fun A i s Q E st h => let ⟨⟨_, he⟩, _⟩ := st; wpAny_pyIter_enum he h


theorem meets_enum_B1 {v : Value} {o : Obj} {H : Heap → Prop} (B : Begins v o H) :
    Meets (Builtin.«enumerate.__new__» ⟨[.type "enumerate", v], []⟩) (fun _ R s => H s.heap ∧
      R (.ok (.ret (.ref (s.heap.push o).objs.size))) { s with heap := (s.heap.push o).push { cls := .type "enumerate", data := .fields #[.none, .bool false, .ref s.heap.objs.size, rawInt 0, .none, .none] } }) :=
  .of_wp fun prog w A R s h => by
    obtain ⟨hp, g, d, tk, os⟩ := s; obtain ⟨h1, h⟩ := h
    have hsub := sub_enumerate
    have q1 : ∀ {A' : Around} {E : Value → Shared → Prop} {Q : Value → Shared → Prop}, Q (.ref hp.objs.size) ⟨hp.push o, g, d, tk, os⟩ → wpAny (model prog w) A' (pyIter v) Q E ⟨hp, g, d, tk, os⟩ :=
      fun q => B.iter prog w _ _ ⟨hp, g, d, tk, os⟩ _ h1 q
    wp_walk using q1
    refine wpAny_stack_any fun st => wpAny_pure ?_
    split
    · rename_i c _ _ _ _ _
      cases (c == Value.type "enumerate")
      · wp_walk using q1
        exact ⟨_, rfl, h⟩
      · wp_walk using q1
        exact ⟨_, rfl, h⟩
    · wp_walk using q1
      exact ⟨_, rfl, h⟩
theorem enum_begins1 {prog : Program} {w : World} {A : Around} {E : Value → Shared → Prop} {s : Shared} {v : Value} {o : Obj} {H : Heap → Prop} {Q : Value → Shared → Prop} (B : Begins v o H) (h1 : H s.heap)
    (h : ∀ h', IsEnum h' (s.heap.objs.size + 1) s.heap.objs.size 0 .none → h'.get? s.heap.objs.size = some o → h'.objs.size = s.heap.objs.size + 2 → (∀ b o, s.heap.get? b = some o → h'.get? b = some o) → Q (.ref (s.heap.objs.size + 1)) { s with heap := h' }) :
    wpAny (model prog w) A (call (.type "enumerate") [v]) Q E s := by
  refine callType_new F.called_enumerate (by decide) (F.typeCall_enumerate_1 _) (F.newCall_enumerate_1 _) (fun obj => F.args_object_init_2 obj _) F.entry_enumerate_new (meets_enum_B1 B) ⟨h1, ?_⟩
  have hz : (s.heap.push o).objs.size = s.heap.objs.size + 1 := Heap.size_push ..
  show _ ∧ _
  rw [hz]
  have he : IsEnum ((s.heap.push o).push { cls := .type "enumerate", data := .fields #[.none, .bool false, .ref s.heap.objs.size, rawInt 0, .none, .none] }) (s.heap.objs.size + 1) s.heap.objs.size 0 .none := by
    have := Heap.get?_push_size (s.heap.push o) (o := { cls := .type "enumerate", data := .fields #[.none, .bool false, .ref s.heap.objs.size, rawInt 0, .none, .none] }) rfl
    rw [hz] at this; exact this
  refine ⟨⟨_, he, rfl⟩, h _ he (Heap.get?_push_of_some _ (Heap.get?_push_size _ B.free)) (by rw [Heap.size_push, hz]) fun b o x => Heap.get?_push_of_some _ (Heap.get?_push_of_some _ x)⟩
def iEnc (K : PySem.W.Frag) (ta : TA) : TI := fun σ H R => ta σ H fun vs H1 => ∃ (c : Sq) (xs : List V), vs = [.ref c.2] ∧ SqK K H1 c xs ∧ R (Itec K c) H1
theorem pi_enumc {X : Cx} {e : Expr} {ta : TA} {p pos tpos : Pos} {elts : List Expr} {kk : Nat} (hg : Gl X "enumerate") (hm : X.mg "enumerate" = none) (ha : PA X [e] ta) (hs : starEach [e] X.env = [(false, eval e X.env)] := by rfl) :
    PI X (.Tuple elts kk tpos) (.Call (.Name "enumerate" p) [e] [] pos) (iEnc X.K ta) := by
  refine ⟨fun pins s σ H R I h => ?_⟩
  refine Call_ (ld_blt I hg hm boot_enumerate (PyProof.Rows.callWith_type1 (thn (ha.run pos pins s σ H _ I h) fun us s1 ⟨vs, H1, I1, r1, q1⟩ => ?_) hs rfl))
  obtain ⟨c, xs, ex, hq, q⟩ := q1
  subst ex
  cases r1 with
  | cons r rr =>
    cases rr
    cases r
    obtain ⟨its, rv, p', hz⟩ := sqk_at I1 hq
    refine enum_begins1 (begK c its.toArray) p' fun h' he hit hsz hk => wpAny_pyIter_enum he ?_
    have I2 : Inv X pins σ H1 { s1 with heap := h' } := I1.kept (t' := s1.toks) hk
    refine ⟨s1.heap.objs.size + 1, [s1.heap.objs.size + 1, s1.heap.objs.size], _, _, H1, rfl, I2, turn_enumc c (s1.heap.objs.size + 1) s1.heap.objs.size, ⟨⟨.none, he⟩, itAt_new hit, Nat.succ_ne_self _, Nat.ne_of_lt hz, Nat.ne_of_lt (Nat.lt_succ_of_lt hz)⟩, fun b hb => ?_, q⟩
    have e' : b = s1.heap.objs.size + 1 ∨ b = s1.heap.objs.size := by simpa using hb
    have hle : s1.heap.objs.size ≤ b := by
      rcases e' with z | z
      · rw [z]; exact Nat.le_add_right _ _
      · rw [z]; exact Nat.le_refl _
    exact I1.fpOk hle (I1.hok.fresh hle)
theorem walk_enumc {K : PySem.W.Frag} {c : Sq} {xs : List V} : Walk (Itec K c) xs.length (fun H => SqK K H c xs) (YPair (fun i => some (.int (i : Nat))) (fun i => xs[i]?)) := by
  refine ⟨fun i _ hi q => ⟨xs, xs[i], q, by simp [hi]⟩, fun _ q => ⟨xs, q, rfl⟩, fun i H v H' _ q y => ?_⟩
  obtain ⟨T, x, h1, h2, h3, h4⟩ := y
  exact ⟨T, .int (i : Nat), x, h1, h2, h3, rfl, h4 xs q⟩

/-! ### zip of three -/
def Itz3 (K : PySem.W.Frag) (c d e : Sq) : It :=
  ⟨fun i H => ∃ (xs ys zs : List V) (x y z : V), SqK K H c xs ∧ SqK K H d ys ∧ SqK K H e zs ∧ xs[i]? = some x ∧ ys[i]? = some y ∧ zs[i]? = some z,
    fun i H v H' => ∃ T x y z, v = .ref T ∧ H T = none ∧ H' = upd H T (.tup [x, y, z]) ∧ (∀ xs, SqK K H c xs → xs[i]? = some x) ∧ (∀ ys, SqK K H d ys → ys[i]? = some y) ∧ ∀ zs, SqK K H e zs → zs[i]? = some z,
    fun i H => ∃ xs ys zs : List V, SqK K H c xs ∧ SqK K H d ys ∧ SqK K H e zs ∧ xs.length = i ∧ ys.length = i ∧ zs.length = i⟩
theorem turn_zip3 {P : Program} {w : World} {K : PySem.W.Frag} {elts : List Expr} {kk : Nat} {tpos : Pos} {c d e : Sq} {N : Addr} (hc : c.2 < N) (hd : d.2 < N) (he : e.2 < N) :
    Turn P w K (.Tuple elts kk tpos) (Itz3 K c d e) [N + 5, N + 3, N + 4, N, N + 1, N + 2] (N + 5) (fun i h => IsZip h (N + 5) (N + 3) (N + 4) .none ∧ IsTupOf3 h (N + 3) (.ref N) (.ref (N + 1)) (.ref (N + 2)) ∧ (∃ x y z, IsTupOf3 h (N + 4) x y z) ∧ ItAt h N c i ∧ ItAt h (N + 1) d i ∧ ItAt h (N + 2) e i) where
  mem := by simp
  obj := fun i h st b hb => by
    obtain ⟨hz, hTI, ⟨x, y, z, hTO⟩, h1, h2, h3⟩ := st
    have e' : b = N + 5 ∨ b = N + 3 ∨ b = N + 4 ∨ b = N ∨ b = N + 1 ∨ b = N + 2 := by simpa using hb
    rcases e' with q | q | q | q | q | q
    · rw [q]; exact ⟨_, hz, fun v q => nomatch q⟩
    · rw [q]; exact ⟨_, hTI, fun v q => nomatch q⟩
    · rw [q]; exact ⟨_, hTO, fun v q => nomatch q⟩
    · rw [q]; exact h1.live
    · rw [q]; exact h2.live
    · rw [q]; exact h3.live
  keep := fun i h h' st k => by
    obtain ⟨hz, hTI, ⟨x, y, z, hTO⟩, h1, h2, h3⟩ := st
    exact ⟨k _ (by simp) _ hz, k _ (by simp) _ hTI, ⟨x, y, z, k _ (by simp) _ hTO⟩, h1.at fun o q => k _ (by simp) o q, h2.at fun o q => k _ (by simp) o q, h3.at fun o q => k _ (by simp) o q⟩
  item := by
    intro X hP hw hK hcalm i pins s σ H E I hf st hg
    subst hP hw hK
    obtain ⟨hz, hTI, ⟨x0, y0, z0, hTO⟩, h1, h2, h3⟩ := st
    obtain ⟨xs, ys, zs, x, y, z, hqx, hqy, hqz, hx, hy, hzz⟩ := hg
    obtain ⟨its, rv, p1, _⟩ := sqk_at I hqx
    obtain ⟨its2, rv2, p2, _⟩ := sqk_at I hqy
    obtain ⟨its3, rv3, p3, _⟩ := sqk_at I hqz
    obtain ⟨u1, hu1, ru1⟩ := rv.get hx
    obtain ⟨u2, hu2, ru2⟩ := rv2.get hy
    obtain ⟨u3, hu3, ru3⟩ := rv3.get hzz
    have hh : X.A.in1.handled = none := I.ok.hd hcalm
    have D1 := drawsK (prog := X.prog) (w := X.w) (A := X.A.in1) hh N c (Nat.ne_of_lt hc) its.toArray
    have D2 := drawsK (prog := X.prog) (w := X.w) (A := X.A.in1) hh (N + 1) d (Nat.ne_of_lt (Nat.lt_succ_of_lt hd)) its2.toArray
    have D3 := drawsK (prog := X.prog) (w := X.w) (A := X.A.in1) hh (N + 2) e (Nat.ne_of_lt (Nat.lt_succ_of_lt (Nat.lt_succ_of_lt he))) its3.toArray
    have S := zip_sep3 (N := N) (fp1 := [c.2]) (fp2 := [d.2]) (fp3 := [e.2]) (by simpa using hc) (by simpa using hd) (by simpa using he)
    have lt : ∀ {b : Addr} {o : Obj}, s.heap.get? b = some o → b < s.heap.objs.size := fun q => Heap.lt_size q
    have hzl := lt hz
    have k1 : i < its.toArray.size := by rw [List.size_toArray]; exact (List.getElem?_eq_some_iff.mp hu1).1
    have k2 : i < its2.toArray.size := by rw [List.size_toArray]; exact (List.getElem?_eq_some_iff.mp hu2).1
    have k3 : i < its3.toArray.size := by rw [List.size_toArray]; exact (List.getElem?_eq_some_iff.mp hu3).1
    refine wpAny_pyNext_zipD3_item S D1 D2 D3 hz hTI hTO ⟨h1, p1⟩ ⟨h2, p2⟩ ⟨h3, p3⟩ k1 k2 k3 fun w1 w2 w3 h' tk e1 e2 e3 hz' hTO' s1' s2' s3' hT hsz hk => ?_
    obtain rfl : w1 = u1 := by
      have z : its.toArray[i]? = some u1 := by simpa using hu1
      rw [e1] at z
      exact Option.some.inj z
    obtain rfl : w2 = u2 := by
      have z : its2.toArray[i]? = some u2 := by simpa using hu2
      rw [e2] at z
      exact Option.some.inj z
    obtain rfl : w3 = u3 := by
      have z : its3.toArray[i]? = some u3 := by simpa using hu3
      rw [e3] at z
      exact Option.some.inj z
    refine ⟨_, rfl, wpAny_letOwnedTupleGo_zip (s := { s with heap := h', toks := tk }) hz' fun h'' hz'' sb => ?_⟩
    have hT2 : h''.get? s.heap.objs.size = some { cls := .type "tuple", data := .seq #[w1, w2, w3] } := (sb.2 _ (Nat.ne_of_gt hzl)).trans hT
    have new : ObjOk X.prog X.w (upd H s.heap.objs.size (.tup [x, y, z])) h'' s.heap.objs.size (.tup [x, y, z]) :=
      ⟨by show 3 ≤ sizeLine; decide, [w1, w2, w3], .cons ru1 (.cons ru2 (.cons ru3 .nil)), ⟨_, hT2, rfl, _, rfl⟩⟩
    have I1 : Inv X pins σ (upd H s.heap.objs.size (.tup [x, y, z])) { s with heap := h'', toks := tk } :=
      I.turnedNew (ch := [N + 5, N + 3, N + 4, N, N + 1, N + 2]) (fun b o hb q => (sb.2 b (fun q' => hb (by simp [q']))).trans (hk b o (fun q' => hb (by simp [q'])) (fun q' => hb (by simp [q'])) (fun q' => hb (by simp [q'])) (fun q' => hb (by simp [q'])) (fun q' => hb (by simp [q'])) q)) hf (Nat.le_refl _) new
    have a5 : ∀ {j k : Nat}, j ≠ k → (N + j : Nat) ≠ N + k := fun h q => h (Nat.add_left_cancel q)
    refine ⟨.ref s.heap.objs.size, _, I1, rfl, ⟨_, x, y, z, rfl, I.hok.fresh (Nat.le_refl _), rfl, fun l hl => by rw [sqk_inj I hl hqx]; exact hx, fun l hl => by rw [sqk_inj I hl hqy]; exact hy, fun l hl => by rw [sqk_inj I hl hqz]; exact hzz⟩,
      ⟨hz'', ?_, ⟨w1, w2, w3, ?_⟩, ?_, ?_, ?_⟩, fun b hb => ?_⟩
    · exact (sb.2 _ S.TIz).trans (hk _ _ S.TIz S.TITO S.TIi1 S.TIi2 S.TIi3 hTI)
    · exact (sb.2 _ S.TOz).trans hTO'
    · exact s1'.1.at fun o q => (sb.2 _ S.zi1.symm).trans q
    · exact s2'.1.at fun o q => (sb.2 _ S.zi2.symm).trans q
    · exact s3'.1.at fun o q => (sb.2 _ S.zi3.symm).trans q
    · have hlt : b < s.heap.objs.size := by
        have e' : b = N + 5 ∨ b = N + 3 ∨ b = N + 4 ∨ b = N ∨ b = N + 1 ∨ b = N + 2 := by simpa using hb
        rcases e' with q | q | q | q | q | q
        · rw [q]; exact hzl
        · rw [q]; exact lt hTI
        · rw [q]; exact lt hTO
        · rw [q]; obtain ⟨_, e1, _⟩ := h1.live; exact lt e1
        · rw [q]; obtain ⟨_, e1, _⟩ := h2.live; exact lt e1
        · rw [q]; obtain ⟨_, e1, _⟩ := h3.live; exact lt e1
      rw [upd_ne (Nat.ne_of_lt hlt)]
      exact (hf b hb).1
  done := by
    intro X hP hw hK hcalm i pins s σ H E I hf st hg
    subst hP hw hK
    obtain ⟨hz, hTI, ⟨x0, y0, z0, hTO⟩, h1, h2, h3⟩ := st
    obtain ⟨xs, ys, zs, hqx, hqy, hqz, l1, l2, l3⟩ := hg
    obtain ⟨its, rv, p1, _⟩ := sqk_at I hqx
    obtain ⟨its2, rv2, p2, _⟩ := sqk_at I hqy
    obtain ⟨its3, rv3, p3, _⟩ := sqk_at I hqz
    have hh : X.A.in1.handled = none := I.ok.hd hcalm
    have D1 := drawsK (prog := X.prog) (w := X.w) (A := X.A.in1) hh N c (Nat.ne_of_lt hc) its.toArray
    have D2 := drawsK (prog := X.prog) (w := X.w) (A := X.A.in1) hh (N + 1) d (Nat.ne_of_lt (Nat.lt_succ_of_lt hd)) its2.toArray
    have D3 := drawsK (prog := X.prog) (w := X.w) (A := X.A.in1) hh (N + 2) e (Nat.ne_of_lt (Nat.lt_succ_of_lt (Nat.lt_succ_of_lt he))) its3.toArray
    have S := zip_sep3 (N := N) (fp1 := [c.2]) (fp2 := [d.2]) (fp3 := [e.2]) (by simpa using hc) (by simpa using hd) (by simpa using he)
    have m1 := rv.length
    have m2 := rv2.length
    have m3 := rv3.length
    refine wpAny_pyNext_zipD3_end S D1 D2 D3 hz hTI hTO ⟨h1, p1⟩ ⟨h2, p2⟩ ⟨h3, p3⟩ (by simp; omega) (by simp; omega) (by simp; omega) (.inl (by simp; omega)) fun h' tk hk => ⟨rfl, ?_⟩
    exact I.turnedL (ch := [N + 5, N + 3, N + 4, N, N + 1, N + 2]) (fun b o hb q => hk b o (fun q' => hb (by simp [q'])) (fun q' => hb (by simp [q'])) (fun q' => hb (by simp [q'])) (fun q' => hb (by simp [q'])) (fun q' => hb (by simp [q'])) q) hf
  self := fun A i s Q E st h => wpAny_pyIter_zip st.1 h
def iZip3 (K : PySem.W.Frag) (ta : TA) : TI := fun σ H R => ta σ H fun vs H1 => ∃ (c d e : Sq) (xs ys zs : List V), vs = [.ref c.2, .ref d.2, .ref e.2] ∧ SqK K H1 c xs ∧ SqK K H1 d ys ∧ SqK K H1 e zs ∧ R (Itz3 K c d e) H1
theorem pi_zip3 {X : Cx} {e1 e2 e3 : Expr} {ta : TA} {p pos tpos : Pos} {elts : List Expr} {kk : Nat} (hg : Gl X "zip") (hm : X.mg "zip" = none) (ha : PA X [e1, e2, e3] ta)
    (hs : starEach [e1, e2, e3] X.env = (false, eval e1 X.env) :: starEach [e2, e3] X.env := by rfl) (hpl : (backTo pos (starEach [e2, e3] X.env)).any (·.1) = false := by rfl) :
    PI X (.Tuple elts kk tpos) (.Call (.Name "zip" p) [e1, e2, e3] [] pos) (iZip3 X.K ta) := by
  refine ⟨fun pins s σ H R I h => ?_⟩
  refine Call_ (ld_blt I hg hm PyProof.Rows.boot_zip (PyProof.Rows.callWith_type1 (thn (ha.run pos pins s σ H _ I h) fun us s1 ⟨vs, H1, I1, r1, q1⟩ => ?_) hs hpl))
  obtain ⟨c, d, e, xs, ys, zs, ex, hqx, hqy, hqz, q⟩ := q1
  subst ex
  cases r1 with
  | cons r rr =>
    cases rr with
    | cons r' rr =>
      cases rr with
      | cons r'' rr =>
        cases rr
        cases r
        cases r'
        cases r''
        obtain ⟨its, rv, p1, z1⟩ := sqk_at I1 hqx
        obtain ⟨its2, rv2, p2, z2⟩ := sqk_at I1 hqy
        obtain ⟨its3, rv3, p3, z3⟩ := sqk_at I1 hqz
        refine zip_begins3 (begK c its.toArray) (begK d its2.toArray) (begK e its3.toArray) p1 p2 p3 fun h' hz hTI hTO h1 h2 h3 hsz hk => wpAny_pyIter_zip hz ?_
        have I2 : Inv X pins σ H1 { s1 with heap := h' } := I1.kept (t' := s1.toks) hk
        refine ⟨s1.heap.objs.size + 5, [s1.heap.objs.size + 5, s1.heap.objs.size + 3, s1.heap.objs.size + 4, s1.heap.objs.size, s1.heap.objs.size + 1, s1.heap.objs.size + 2], _, _, H1, rfl, I2, turn_zip3 z1 z2 z3,
          ⟨hz, hTI, ⟨_, _, _, hTO⟩, itAt_new h1, itAt_new h2, itAt_new h3⟩, fun b hb => ?_, q⟩
        have e' : b = s1.heap.objs.size + 5 ∨ b = s1.heap.objs.size + 3 ∨ b = s1.heap.objs.size + 4 ∨ b = s1.heap.objs.size ∨ b = s1.heap.objs.size + 1 ∨ b = s1.heap.objs.size + 2 := by simpa using hb
        have hle : s1.heap.objs.size ≤ b := by
          rcases e' with z | z | z | z | z | z <;> (rw [z]; first | exact Nat.le_add_right _ _ | exact Nat.le_refl _)
        exact I1.fpOk hle (I1.hok.fresh hle)
def YTri (xs ys zs : Nat → Option V) : Nat → Hp → V → Hp → Prop := fun i H v H' => ∃ T x y z, v = .ref T ∧ H T = none ∧ H' = upd H T (.tup [x, y, z]) ∧ xs i = some x ∧ ys i = some y ∧ zs i = some z
theorem walk_zip3 {K : PySem.W.Frag} {c d e : Sq} {xs ys zs : List V} (h1 : ys.length = xs.length) (h2 : zs.length = xs.length) :
    Walk (Itz3 K c d e) xs.length (fun H => SqK K H c xs ∧ SqK K H d ys ∧ SqK K H e zs) (YTri (fun i => xs[i]?) (fun i => ys[i]?) (fun i => zs[i]?)) := by
  refine ⟨fun i _ hi q => ?_, fun _ q => ⟨xs, ys, zs, q.1, q.2.1, q.2.2, rfl, h1, h2⟩, fun i H v H' _ q y => ?_⟩
  · exact ⟨xs, ys, zs, xs[i], ys[i]'(by omega), zs[i]'(by omega), q.1, q.2.1, q.2.2, by simp [hi], by simp [show i < ys.length by omega], by simp [show i < zs.length by omega]⟩
  · obtain ⟨T, x, y, z, a1, a2, a3, a4, a5, a6⟩ := y
    exact ⟨T, x, y, z, a1, a2, a3, a4 xs q.1, a5 ys q.2.1, a6 zs q.2.2⟩
end FB

set_option Elab.async false
set_option maxRecDepth 100000
set_option maxHeartbeats 16000000
/-! Comprehensions over any walk. -/
namespace FB
open PySem L2 PySem.Spec PyProof.Rows

/-- tuples stay -/
def TK (H H' : Hp) : Prop := ∀ b xs, H b = some (.tup xs) → H' b = some (.tup xs)
theorem Up.tk {T : Tb} {H H' : Hp} (e : Up T H H') : TK H H' := fun _ _ h => e.t h
theorem TK.trans {H H1 H2 : Hp} (a : TK H H1) (b : TK H1 H2) : TK H H2 := fun c xs h => b c xs (a c xs h)
theorem TK.mut {H : Hp} {D : Addr} {xs ys : List V} (h : H D = some (.lst xs)) : TK H (upd H D (.lst ys)) := fun b zs e => by
  rw [upd_ne (fun z => by rw [z, h] at e; cases e)]
  exact e
theorem SpanV.tk {H H' : Hp} {v : V} {s : Option (Int × Int)} (e : TK H H') (h : SpanV H v s) : SpanV H' v s := by
  cases s with
  | none => exact h
  | some p =>
    obtain ⟨t, h1, h2⟩ := h
    exact ⟨t, h1, e _ _ h2⟩
theorem PerV.tk {H H' : Hp} {v : V} {p : Per} (e : TK H H') (h : PerV H v p) : PerV H' v p := by
  obtain ⟨t, s, h1, h2, h3⟩ := h
  exact ⟨t, s, h1, e _ _ h2, h3.tk e⟩
theorem MeeV.tk {H H' : Hp} {v : V} {m : Mee} (e : TK H H') (h : MeeV H v m) : MeeV H' v m := by
  obtain ⟨t, h1, h2⟩ := h
  exact ⟨t, h1, e _ _ h2⟩

section
variable {T : Tb} {J : It} {n : Nat} {G : Hp → Prop} {Y : Nat → Hp → V → Hp → Prop} {g : TG} {tt : TT} {te : TE} {vs : List Nat} {σ : L2.St} {H1 : Hp} {D : Addr} {Qd : Hp → Prop}
/-- [e for x in w]: R tells the i-th item -/
theorem lc_gen (w : Walk J n G Y) (R : Nat → V → Hp → Prop) (hR : ∀ i v H H', TK H H' → R i v H → R i v H') (hn : n ≤ 100000) (hD : H1 D = none) (hG : ∀ H', Up T H1 H' → G H')
    (hs : ∀ i x H H' (Qe : VK), i < n → Up T H1 H → Y i H x H' → (∀ v H3, Up T H H3 → R i v H3 → Qe v H3) → g x (wipe σ vs) H' fun σ2 H2 => wipe σ2 vs = wipe σ vs ∧ te σ2 H2 Qe)
    (hd : ∀ H acc, Up T H1 H → H D = some (.lst acc) → acc.length = n → (∀ j v, acc[j]? = some v → R j v H) → Qd H) :
    ∃ W : Nat → Nat → Hp → Prop, (∃ m, W 0 m (upd H1 D (.lst []))) ∧ ∀ i m H, W i m H →
      (J.stop i H ∧ Qd H) ∨ (J.go i H ∧ ∃ Nx : Hp → Prop, (∀ H', Nx H' → ∃ m', m' < m ∧ W (i + 1) m' H') ∧ ∀ x H', J.yld i H x H' → g x (wipe σ vs) H' fun σ2 H2 => wipe σ2 vs = wipe σ vs ∧ tYes σ2 H2 fun b H3 =>
        if b = true then te σ2 H3 fun y H4 => ∃ acc, H4 D = some (.lst acc) ∧ acc.length < sizeLine ∧ Nx (upd H4 D (.lst (acc ++ [y]))) else Nx H3) := by
  refine lc_it w (fun i H => Up T H1 H ∧ ∃ acc, H D = some (.lst acc) ∧ acc.length = i ∧ ∀ j v, acc[j]? = some v → R j v H) ⟨Up.new hD, [], upd_same, rfl, fun j v e => by simp at e⟩ (fun i H _ p => hG H p.1) (fun i x H H' hi p y => ?_) (fun H p => ?_)
  · obtain ⟨u, acc, hacc, hl, hr⟩ := p
    refine hs i x H H' _ hi u y fun v H3 u3 r => ?_
    have hs : sizeLine = 16777216 := sizeLine_eq
    have h3 := u3.l hacc
    have tk := TK.mut (ys := acc ++ [v]) h3
    refine ⟨acc, h3, by omega, (u.trans u3).mutL hD h3, acc ++ [v], upd_same, by simp [hl], fun j v' e => ?_⟩
    by_cases hj : j < acc.length
    · rw [List.getElem?_append_left hj] at e
      exact hR _ _ _ _ (u3.tk.trans tk) (hr j v' e)
    · rw [List.getElem?_append_right (by omega)] at e
      have hj0 : j - acc.length = 0 := by
        have := (List.getElem?_eq_some_iff.mp e).1
        simp at this
        omega
      rw [hj0] at e
      simp at e
      subst e
      have : j = i := by omega
      subst this
      exact hR _ _ _ _ tk r
  · obtain ⟨u, acc, hacc, hl, hr⟩ := p
    exact hd H acc u hacc hl hr
/-- the items are known values -/
theorem lc_map (w : Walk J n G Y) (f : Nat → V) (hn : n ≤ 100000) (hD : H1 D = none) (hG : ∀ H', Up T H1 H' → G H')
    (hs : ∀ i x H H' (Qe : VK), i < n → Up T H1 H → Y i H x H' → (∀ H3, Up T H H3 → Qe (f i) H3) → g x (wipe σ vs) H' fun σ2 H2 => wipe σ2 vs = wipe σ vs ∧ te σ2 H2 Qe)
    (hd : ∀ H, Up T H1 H → H D = some (.lst ((List.range n).map f)) → Qd H) :
    ∃ W : Nat → Nat → Hp → Prop, (∃ m, W 0 m (upd H1 D (.lst []))) ∧ ∀ i m H, W i m H →
      (J.stop i H ∧ Qd H) ∨ (J.go i H ∧ ∃ Nx : Hp → Prop, (∀ H', Nx H' → ∃ m', m' < m ∧ W (i + 1) m' H') ∧ ∀ x H', J.yld i H x H' → g x (wipe σ vs) H' fun σ2 H2 => wipe σ2 vs = wipe σ vs ∧ tYes σ2 H2 fun b H3 =>
        if b = true then te σ2 H3 fun y H4 => ∃ acc, H4 D = some (.lst acc) ∧ acc.length < sizeLine ∧ Nx (upd H4 D (.lst (acc ++ [y]))) else Nx H3) := by
  refine lc_gen w (fun i v _ => v = f i) (fun _ _ _ _ _ h => h) hn hD hG (fun i x H H' Qe hi u y q => hs i x H H' Qe hi u y fun H3 u3 => q _ H3 u3 rfl) fun H acc u ha hl hr => hd H u ?_
  have e : acc = (List.range n).map f := by
    apply List.ext_getElem?
    intro j
    by_cases hj : j < n
    · rw [List.getElem?_map, List.getElem?_range hj]
      have q : acc[j]? = some acc[j] := List.getElem?_eq_getElem (by omega)
      rw [q, hr j _ q]
      rfl
    · rw [List.getElem?_eq_none (by omega), List.getElem?_eq_none (by simp; omega)]
  rw [← e]
  exact ha
/-- [e for x in w if t]: known values -/
theorem lc_filt (w : Walk J n G Y) (p : Nat → Bool) (f : Nat → V) (hn : n ≤ 100000) (hD : H1 D = none) (hG : ∀ H', Up T H1 H' → G H')
    (hs : ∀ i x H H' (Qy : VK) (Qn : Hp → Prop), i < n → Up T H1 H → Y i H x H' → (p i = true → ∀ H3, Up T H H3 → Qy (f i) H3) → (p i = false → ∀ H3, Up T H H3 → Qn H3) →
      g x (wipe σ vs) H' fun σ2 H2 => wipe σ2 vs = wipe σ vs ∧ tt σ2 H2 fun b H3 => if b = true then te σ2 H3 Qy else Qn H3)
    (hd : ∀ H, Up T H1 H → H D = some (.lst (((List.range n).filter p).map f)) → Qd H) :
    ∃ W : Nat → Nat → Hp → Prop, (∃ m, W 0 m (upd H1 D (.lst []))) ∧ ∀ i m H, W i m H →
      (J.stop i H ∧ Qd H) ∨ (J.go i H ∧ ∃ Nx : Hp → Prop, (∀ H', Nx H' → ∃ m', m' < m ∧ W (i + 1) m' H') ∧ ∀ x H', J.yld i H x H' → g x (wipe σ vs) H' fun σ2 H2 => wipe σ2 vs = wipe σ vs ∧ tt σ2 H2 fun b H3 =>
        if b = true then te σ2 H3 fun y H4 => ∃ acc, H4 D = some (.lst acc) ∧ acc.length < sizeLine ∧ Nx (upd H4 D (.lst (acc ++ [y]))) else Nx H3) := by
  refine lc_it w (fun i H => Up T H1 H ∧ H D = some (.lst (((List.range i).filter p).map f))) ⟨Up.new hD, upd_same⟩ (fun i H _ q => hG H q.1) (fun i x H H' hi q y => ?_) (fun H q => hd H q.1 q.2)
  obtain ⟨u, hacc⟩ := q
  have hsz : sizeLine = 16777216 := sizeLine_eq
  have hlen : (((List.range i).filter p).map f).length ≤ i := by
    rw [List.length_map]
    exact Nat.le_trans (List.length_filter_le _ _) (by rw [List.length_range]; exact Nat.le_refl _)
  refine hs i x H H' _ _ hi u y (fun hp H3 u3 => ⟨_, u3.l hacc, by omega, (u.trans u3).mutL hD (u3.l hacc), ?_⟩) (fun hp H3 u3 => ⟨u.trans u3, ?_⟩)
  · rw [upd_same, List.range_succ, List.filter_append, List.map_append]
    simp [hp]
  · rw [u3.l hacc, List.range_succ, List.filter_append, List.map_append]
    simp [hp]
end
/-- tuple(s), s a list or a tuple that stands -/
def rTupS : List V → Hp → VK → Prop := fun vs H Q => ∃ v ys, vs = [v] ∧ Seq H v ys ∧ ∀ t H', (∀ T, Up T H H') → H' t = some (.tup ys) → Q (.ref t) H'
theorem call_tupleS {X : Cx} : CallR X (.type "tuple") rTupS := by
  intro pins s σ H xs us Q I r h
  obtain ⟨v, ys, rfl, ⟨a, rfl, ha⟩, q⟩ := h
  refine call_tuple_of pins s σ H _ us Q I r ⟨a, ys, rfl, ?_⟩
  rcases ha with ha | ha
  · exact .inl ⟨.of ha, fun l hl => q l _ (fun T => Up.new hl) upd_same⟩
  · exact .inr ⟨.of ha, q a H (fun T => Up.refl H) ha⟩
/-- list(s) -/
def rLstS : List V → Hp → VK → Prop := fun vs H Q => ∃ v ys, vs = [v] ∧ Seq H v ys ∧ ∀ l, H l = none → Q (.ref l) (upd H l (.lst ys))
theorem call_listS {X : Cx} : CallR X (.type "list") rLstS := by
  intro pins s σ H xs us Q I r h
  obtain ⟨v, ys, rfl, ⟨a, rfl, ha⟩, q⟩ := h
  exact call_list_of pins s σ H _ us Q I r ⟨a, ys, rfl, ha.imp .of .of, q⟩
/-- a tuple that was made by tuple(list): its object has no dict of its own, so its methods are the type's -/
def TupF (H : Hp) (t : Addr) (xs : List V) : Prop := ∃ o : Obj, o.dict = none ∧ H t = some (.frz o (.tup xs))
theorem TupF.up {T : Tb} {H H' : Hp} {t : Addr} {xs : List V} (h : TupF H t xs) (e : Up T H H') : TupF H' t xs := by
  obtain ⟨o, h1, h2⟩ := h
  exact ⟨o, h1, e.get h2 fun _ z => nomatch z⟩
theorem TupF.st {K : PySem.W.Frag} {H : Hp} {t : Addr} {xs : List V} (h : TupF H t xs) : SqT K H t xs := by
  obtain ⟨o, h1, h2⟩ := h
  exact .inl (.inr ⟨o, h2⟩)
def rTupF (K : PySem.W.Frag) : List V → Hp → VK → Prop := fun vs H Q => ∃ p ys, vs = [.ref p] ∧ SqL K H p ys ∧ ∀ t H', (∀ T, Up T H H') → TupF H' t ys → Q (.ref t) H'
theorem call_tupleF {X : Cx} : CallR X (.type "tuple") (rTupF X.K) := by
  intro pins s σ H xs us Q I r h
  obtain ⟨p, ys, rfl, hs, q⟩ := h
  rw [Vals.ref1 r]
  obtain ⟨its, rv, pl, hz⟩ := I.list hs
  refine call_tuple_list pl.isList (fun h' hk => ?_) (by rw [List.size_toArray, ← rv.length]; exact hz)
  have I1 : Inv X pins σ H { s with heap := h' } := I.kept (t' := s.toks) hk
  have I2 : Inv X pins σ (upd H h'.objs.size (.frz { cls := .type "tuple", data := .seq its.toArray } (.tup ys))) { s with heap := h'.push { cls := .type "tuple", data := .seq its.toArray } } :=
    I1.laid (t' := s.toks) (fun b o e => Heap.get?_push_of_some _ e) (Nat.le_refl _) (show ObjOk X.prog X.w _ _ _ (.frz _ (.tup ys)) from ⟨Heap.get?_push_size _ rfl, hz, its, rv, IsTup.new _ _⟩)
  exact ⟨.ref h'.objs.size, _, I2, rfl, q _ _ (fun T => Up.new (I1.hok.fresh (Nat.le_refl _))) ⟨_, rfl, upd_same⟩⟩
/-- t.m(e), t such a tuple -/
def tBMF (r : V → List V → Hp → VK → Prop) (to : TE) (t : TA) : TE := fun σ H Q => to σ H fun x H1 => (∃ p xs, x = .ref p ∧ TupF H1 p xs) ∧ t σ H1 fun xs H2 => r x xs H2 Q
theorem pe_bmF {X : Cx} {o e : Expr} {es : List Expr} {to : TE} {t : TA} {name : Str} {apos cpos : Pos} {id : String} {r : V → List V → Hp → VK → Prop} (slot : Slot "tuple" name id) (hty : typeOf (.builtin id) = pure (.type "method_descriptor")) (hm : MtR X id r) (ho : PE X o to) (ha : PA X (e :: es) t)
    (hbase : attributeBase o name X.env (eval o X.env) = eval o X.env := by rfl)
    (hfew : ((backTo cpos (starEach (e :: es) X.env)).all (fun x => !x.1) && (backToKw cpos (keywordEach [] X.env)).all (fun x => x.1.isSome)
      && decide ((e :: es).length + ([] : List Keyword).length + (if ([] : List Keyword).isEmpty then 0 else 1) < 30)) = true := by rfl)
    (hline : (apos.endLine == cpos.line) = true := by rfl) (hs : starEach (e :: es) X.env = (false, eval e X.env) :: starEach es X.env := by rfl) (hplain : (backTo cpos (starEach es X.env)).any (·.1) = false := by rfl) :
    PE X (.Call (.Attribute o name apos) (e :: es) [] cpos) (tBMF r to t) := by
  refine ⟨fun pins s σ H Q I h => ?_⟩
  refine wpAny_Call_method_late hbase hfew hline rfl (thn (ho.run pins s σ H _ I h) fun v s1 ⟨x, H1, I1, r1, ty, q1⟩ => ?_)
  obtain ⟨p, xs, rfl, ob, hdn, hF⟩ := ty
  obtain rfl : v = Value.ref p := r1
  obtain ⟨g1, _, its, rv, o1, g2, g3, _⟩ := (show ObjOk X.prog X.w H1 s1.heap p (.frz ob (.tup xs)) from I1.hok p _ hF)
  refine ⟨"tuple", id, PySem.F.plainAttrs_tuple, slot, hty, ⟨o1, g2, g3⟩, fun a e => ?_, ?_⟩
  · cases e
    exact ⟨ob, g1, hdn⟩
  have hA := ha.run cpos pins s1 σ H1 _ I1 q1
  rw [hs] at hA ⊢
  refine Calls.callWith_builtin (by show (false || (backTo cpos (starEach es X.env)).any (·.1)) = false; rw [hplain] <;> rfl) (Calls.evalArgs_plain ?_)
  exact thn hA fun us s2 ⟨vs, H2, I2, r2, q2⟩ => hm pins s2 σ H2 (.ref p) vs (.ref p) us Q I2 (show L2.RelV (.ref p) (.ref p) from rfl) r2 q2
end FB

set_option Elab.async false
set_option maxRecDepth 100000
set_option maxHeartbeats 16000000
/-! sorted(range(n), key=lambda x: cap.fld[x][0]): the places of a row of tuples by their first ints. -/
namespace FB
open PySem L2 PySem.Spec PyProof.Rows LamX

abbrev lamE (cap fld par : Str) (p1 p2 p3 p4 p5 p6 : Pos) (k : Nat) : Expr := .Subscript (.Subscript (.Attribute (.Name cap p1) fld p2) (.Name par p3) p4) (.Constant (.int 0) k p5) p6

section
variable {X : Cx} {pins : List (Addr × Obj)} {σ : L2.St} {H : Hp} {s : Shared}
theorem lam_turn (I : Inv X pins σ H s) {scope : Scope} {cap par fld q : Str} {p1 p2 p3 p4 p5 p6 : Pos} {kk i j : Nat} {a C dx tm m f c' : Addr} {fs : List (Str × V)} {ys rest : List V} {k : Int} {params : Arguments} {pm ctv : Value} {A : Around} {g : Heap}
    (hk : scope.kind = .function) (hco : scope.isCoroutine = false) (hgn : scope.isGenerator = false) (hn : scope.names = [(par, .local), (cap, .free)]) (hne : (cap == par) = false) (hcell : X.env.scope.names.lookup cap = some .cell)
    (hd1 : (cap == ("__debug__" : Str)) = false) (hd2 : (par == ("__debug__" : Str)) = false) (hcd : (cap == ("__classdict__" : Str)) = false)
    (hN : X.N[i]? = some cap) (hσ : σ[i]? = some (some (.ref a))) (ea : H a = some (.ins C dx fs)) (cl : Cls X.K C) (na : NoAttr X.K C fld) (lf : fs.lookup fld = some (.ref tm)) (et : H tm = some (.tup ys)) (ej : ys[j]? = some (.ref m)) (em : H m = some (.tup (.int k :: rest)))
    (hbind : ∀ v : Value, bindArgs (PySem.W.kla_fn "<lambda>" q params (lamE cap fld par p1 p2 p3 p4 p5 p6 kk) scope (cloFrom X.env.cells scope.names []) pm (.ref c') ctv) ⟨[v], []⟩ = pure [(par, v)])
    (hf : s.heap.get? f = some (PySem.W.kla_obj "<lambda>" q params (lamE cap fld par p1 p2 p3 p4 p5 p6 kk) scope (cloFrom X.env.cells scope.names []) pm c' ctv)) (hc : H c' = some (CodeO c' q))
    (hd : A.depth < recursionLimit) (kp : ∀ b o, s.heap.get? b = some o → g.get? b = some o) (tk : Nat) (t : Tok) :
    wpAny (model X.prog X.w) A (call (.ref f) [.int (j : Int) t]) (PySem.W.KeyPure (.int k) { s with heap := g, toks := tk }) (fun _ _ => False) { s with heap := g, toks := tk } := by
  have J : Inv X pins σ H { s with heap := g, toks := tk } := I.kept kp
  -- what the heap has
  obtain ⟨⟨oc, vs, tt, hoc, hdc, hvc⟩, _, _⟩ := J.hok c' _ hc
  obtain ⟨mm, hns, hl⟩ := J.loc
  obtain ⟨u, ru, lk⟩ := hl i cap (.ref a) hN hσ (.inr (.inl hcell))
  obtain rfl : u = Value.ref a := ru
  have hcell' : ∃ c, X.env.cells.lookup cap = some c ∧ g.IsCell c (some (.ref a)) := by
    rcases lk with ⟨z, _⟩ | ⟨_, z⟩
    · have z' : X.env.scope.names.lookup cap = some .local := z
      rw [hcell] at z'
      cases z'
    · exact z
  obtain ⟨cc, hcc, hcv⟩ := hcell'
  have hfree : ∀ y ∈ scope.names, y.2 = .free → ∃ c, X.env.cells.lookup y.1 = some c := fun y hy e => by
    rw [hn] at hy
    simp at hy
    rcases hy with rfl | rfl
    · cases e
    · exact ⟨cc, hcc⟩
  have hclo : (cloFrom X.env.cells scope.names []).lookup cap = some cc := NdefX.clo_has hfree (by rw [hn]; simp) hcc
  refine wpAny_call ?_
  refine PySem.W.kla_callFunE hd (kp _ _ hf) rfl hco hgn rfl ⟨c', oc, vs, tt, rfl, hoc, hdc, hvc⟩ ?_
  rw [hbind]
  refine wpAny_pure (wpAny_newFunctionEnv (fun y hy => ?_) (fun y hy => ?_) (fun h₁ hnl hsb => ⟨J.nolimit.fresh _ hsb, ?_⟩) hk)
  · rw [hn] at hy
    simp at hy
    rcases hy with rfl | rfl <;> exact fun z => nomatch z
  · simp at hy
    subst hy
    rw [hn]
    simp [List.lookup]
  show codeAny _ _ (.expr (lamE cap fld par p1 p2 p3 p4 p5 p6 kk) (PySem.W.envX q scope g.objs.size f (.ref c') (cloFrom X.env.cells scope.names []))) _ _
  have kp1 : ∀ b o, g.get? b = some o → h₁.get? b = some o := fun b o e => hsb.extBut b o (Nat.ne_of_lt (Heap.lt_size e)) (Heap.get?_push_of_some _ e)
  have J1 : Inv X pins σ H { s with heap := h₁, toks := tk + 1 } := J.kept (t' := tk + 1) kp1
  obtain ⟨mA, O, r, _, _, _⟩ := ins_get J1.hok ea
  obtain ⟨um, hum, rum⟩ := RelO.some_of (v := .ref tm) (o := mA fld) (by rw [← lf]; exact r fld)
  obtain rfl : um = Value.ref tm := rum
  obtain ⟨its, rv, pl, hz⟩ := J1.tuple (.of et)
  obtain ⟨w1, hw1, rw1⟩ := rv.get ej
  obtain rfl : w1 = Value.ref m := rw1
  obtain ⟨its2, rv2, pl2, hz2⟩ := J1.tuple (.of em)
  obtain ⟨w2, hw2, rw2⟩ := rv2.get (i := 0) rfl
  obtain ⟨t2, rfl⟩ := rw2
  have hll := rv.length
  have hjl : j < its.length := (List.getElem?_eq_some_iff.mp hw1).1
  have hs : sizeLine = 16777216 := sizeLine_eq
  have hl2 : 0 < its2.length := (List.getElem?_eq_some_iff.mp hw2).1
  refine PySem.W.kla_codeExpr ?_
  refine Subscript_ (Subscript_ (attr_of rfl (wpAny_Name (wpAny_loadName_free hk ?_ hclo (c := cc) (v := .ref a) ?_ ?_ hcd) hd1)))
  · show scope.names.lookup cap = some .free
    rw [hn]
    simp [List.lookup, hne]
  · obtain ⟨o, ho, hdo⟩ := hcv
    exact ⟨o, kp1 _ _ ho, hdo⟩
  refine get_map (K := X.K) (s := { s with heap := h₁, toks := tk + 1 }) J1.kIn O (cl.get _) cl.hd na hum rfl ?_
  refine wpAny_Name (wpAny_loadName_local (m := fun x => [(par, Value.int (j : Int) t)].reverse.lookup x) (v := .int (j : Int) t) hk ?_ hnl (by simp [List.lookup]) ?_) hd2
  · show scope.names.lookup par = some .local
    rw [hn]
    simp [List.lookup]
  refine subscriptTail_builtinR (x := Value.ref m) (show Shared.TypeIs { s with heap := h₁, toks := tk + 1 + 1 } (.ref tm) "tuple" from pl.typeIs) slot_tuple_getitem.lookup ?_ (by with_unfolding_all rfl)
  refine getItem_tuple (j := j) (x := Value.ref m) pl (by omega) (by omega) ?_ (by simpa using hw1) ⟨rfl, ?_⟩
  · rw [List.size_toArray]
    exact seqIndex_of (by omega) (by omega)
  refine wpAny_Constant_int ?_
  refine subscriptTail_builtinR (x := Value.int k t2) (show Shared.TypeIs _ (.ref m) "tuple" from pl2.typeIs) slot_tuple_getitem.lookup ?_ (by with_unfolding_all rfl)
  refine getItem_tuple (j := 0) (x := Value.int k t2) pl2 (by omega) (by omega) ?_ (by simpa using hw2) ⟨rfl, ?_⟩
  · rw [List.size_toArray]
    exact seqIndex_of (by omega) (by simp; omega)
  exact ⟨h₁, _, rfl, kp1, Reads.int k t2⟩
end

/-- sorted(range(n), key=lambda par: cap.fld[par][0]), the row at cap's field: what is asked, what comes -/
def tSortLam (T : Tb) (C : Addr) (fld : Str) (i : Nat) (ta : TE) : TE := fun σ H Q => ta σ H fun x H1 => ∃ (n : Nat) (a dx tm : Addr) (fs : List (Str × V)) (ys : List V) (key : Nat → Int), x = .int (n : Int) ∧ n ≤ 10000 ∧ Tabs T H1 ∧ σ[i]? = some (some (.ref a)) ∧ H1 a = some (.ins C dx fs) ∧
  fs.lookup fld = some (.ref tm) ∧ H1 tm = some (.tup ys) ∧ (∀ j, j < n → ∃ m rest, ys[j]? = some (.ref m) ∧ H1 m = some (.tup (.int (key j) :: rest))) ∧
  ∀ H2 p, Up T H1 H2 → H2 p = none → Q (.ref p) (upd H2 p (.lst (((List.range n).mergeSort fun x y => decide (key x ≤ key y)).map fun (k : Nat) => V.int k)))
theorem each_range : ∀ {l : List Nat} {vs : List Value}, Vals (l.map fun (k : Nat) => V.int k) vs → PySem.W.EachIs (fun v (j : Nat) => ∃ t, v = Value.int (j : Int) t) vs l
  | [], _, .nil => .nil
  | _ :: _, _, .cons r rr => .cons r (each_range rr)
theorem each_vals {l : List Nat} {vs : List Value} (h : PySem.W.EachIs (fun v (j : Nat) => ∃ t, v = Value.int (j : Int) t) vs l) : Vals (l.map fun (k : Nat) => V.int k) vs := by
  induction h with
  | nil => exact .nil
  | cons r _ ih => exact .cons r ih
section
variable {X : Cx}
theorem pe_sortLam {T : Tb} {c P : Addr} {scope : Scope} {cap par fld : Str} {p1 p2 p3 p4 p5 p6 p7 p8 pos lpos kpos rpos : Pos} {kk i : Nat} {params : Arguments} {ea : Expr} {ta : TE} {C : Addr} (cl : Cls X.K C) (nf : NoAttr X.K C fld)
    (ha : PE X ea ta) (hr : Room 3 X.A) (hcalm : X.calm = true) (hg : Gl X "sorted") (hm : X.mg "sorted" = none) (hg2 : Gl X "range") (hm2 : X.mg "range" = none)
    (TB : LamX.TabB X.base X.mg c P) (hcode : X.env.code = .ref c) (hmT : (P, X.env.qual ++ "<lambda>") ∈ T) (hu : ∀ p ∈ T, p.1 = P → p.2 = X.env.qual ++ "<lambda>")
    (hk : scope.kind = .function) (hco : scope.isCoroutine = false) (hgn : scope.isGenerator = false) (hn : scope.names = [(par, .local), (cap, .free)]) (hne : (cap == par) = false) (hcell : X.env.scope.names.lookup cap = some .cell)
    (hd1 : (cap == ("__debug__" : Str)) = false) (hd2 : (par == ("__debug__" : Str)) = false) (hcd : (cap == ("__classdict__" : Str)) = false) (hN : X.N[i]? = some cap) (hdef : defaultsOf params X.env = ([], []))
    (hbind : ∀ (q : Str) (cl : List (Str × Addr)) (pm ctv : Value) (c' : Addr) (v : Value), bindArgs (PySem.W.kla_fn "<lambda>" q params (lamE cap fld par p1 p2 p3 p4 p5 p6 kk) scope cl pm (.ref c') ctv) ⟨[v], []⟩ = pure [(par, v)])
    (na : starEach [ea] X.env = (false, eval ea X.env) :: starEach [] X.env := by rfl) :
    PE X (.Call (.Name "sorted" p7) [.Call (.Name "range" p8) [ea] [] rpos] [⟨some "key", .Lambda params (lamE cap fld par p1 p2 p3 p4 p5 p6 kk) scope lpos, kpos⟩] pos) (tSortLam T C fld i ta) := by
  refine ⟨fun pins s σ H Q I h => ?_⟩
  refine wpAny_Call_Name_kw (ld_blt I hg hm (by decide +kernel : bootBuiltins "sorted" = some (.builtin "sorted")) ?_ (by decide) (by decide))
  refine PyProof.Rows.callWith_kw (args_cons (Call_ (ld_blt I hg2 hm2 boot_range (PyProof.Rows.callWith_type1 (one_arg ha I h (fun v s2 x H2 I2 r q => ?_) na) na) (by decide) (by decide))) rfl) (by rfl) (by rfl) (by rfl) (by rfl)
  obtain ⟨n, a, dx, tm, fs, ys, key, rfl, hn1, hT, hσ, ea', lf, et, hrow, q⟩ := q
  obtain ⟨t, rfl⟩ := r
  refine call_range_1 (args_nil ?_)
  -- the range stands pinned while the lambda is made
  have I3 : Inv X pins σ H2 { s2 with heap := s2.heap.push { cls := .type "range", data := .fields #[.int 0 s2.toks, .int n t, .int 1 (s2.toks + 1)] }, toks := s2.toks + 1 + 1 } := I2.kept fun b o e => Heap.get?_push_of_some _ e
  have hrg := IsRange.new s2.heap 0 n 1 s2.toks t (s2.toks + 1)
  have I4 : Inv X ((s2.heap.objs.size, { cls := .type "range", data := .fields #[.int 0 s2.toks, .int n t, .int 1 (s2.toks + 1)] }) :: pins) σ H2 { s2 with heap := s2.heap.push { cls := .type "range", data := .fields #[.int 0 s2.toks, .int n t, .int 1 (s2.toks + 1)] }, toks := s2.toks + 1 + 1 } := by
    refine I3.pins_of fun p hp => ?_
    rcases List.mem_cons.mp hp with e | hp
    · rw [e]
      exact ⟨hrg, I2.hok.fresh (Nat.le_refl _), Nat.ne_of_gt I2.lt, I2.nofs (Nat.le_refl _), fun v z => nomatch z⟩
    · exact I3.pin p (List.mem_append_right _ hp)
  have hfree : ∀ y ∈ scope.names, y.2 = .free → ∃ c, X.env.cells.lookup y.1 = some c := fun y hy e => by
    rw [hn] at hy
    simp at hy
    rcases hy with rfl | rfl
    · cases e
    · exact I2.ok.has _ (.inl hcell)
  show wpAny _ _ (evalAll ((do let v ← eval (.Lambda params (lamE cap fld par p1 p2 p3 p4 p5 p6 kk) scope lpos) X.env; standAt pos; pure v) :: [])) _ _ _
  refine wpAny_evalAll_cons (wpAny_bind (lam_make2 I4 TB hcode hmT hu hT hdef hfree fun f c' pm ctv H3 s3 I5 ext tabs hf hfn hfr hc => wpAny_bind (wpAny_standAt (wpAny_pure (wpAny_evalAll_nil ?_)))))
  have up : Up T H2 H3 := ⟨ext, fun _ => tabs⟩
  have hrg3 : IsRange s3.heap s2.heap.objs.size 0 n 1 s2.toks t (s2.toks + 1) := (I5.pin _ (List.mem_append_right _ (List.mem_cons_self ..))).1
  have I6 : Inv X pins σ H3 s3 := I5.pins_of fun p hp => I5.pin p (List.mem_append_right _ (List.mem_cons_of_mem _ hp))
  show wpAny (model X.prog X.w) X.A (call (.builtin "sorted") [.ref s2.heap.objs.size] [(Str.ofString "key", .ref f)]) _ _ _
  have hh : X.A.handled = none := I6.ok.hd hcalm
  have hs : sizeLine = 16777216 := sizeLine_eq
  refine call_function_entry_kw PyProof.Rows.kind_sorted PyProof.Rows.plain_sorted PyProof.Rows.entry_sorted (ksk_s1 _ _) ?_
  unfold Builtin.«sorted»
  refine wpAny_bind (m := checkCount "sorted" 1 1 _) (wpAny_pure ?_)
  refine wpAny_bind (collect_range (A := X.A.in1) (n := n) hh hrg3 (small_one (by decide) (by decide) (by omega) (by omega)) (by rw [rangeSize_nat]; omega) (by omega) fun h' tk acc hk3 hacc => ?_)
  have hal : acc.toList.length = n := by rw [Array.length_toList]; exact hacc.1
  refine wpAny_bind (wpAny_newList ?_ (by rw [hal]; omega))
  have I7 : Inv X pins σ H3 { s3 with heap := h', toks := tk } := I6.kept hk3
  have hvals : Vals ((List.range n).map fun (k : Nat) => V.int k) acc.toList := by
    have z := vals_of_get acc.toList (fun k => V.int (k : Nat)) fun j u hj => by
      obtain ⟨t', rfl⟩ := hacc.2 j u (by rw [← hj, Array.getElem?_toList])
      exact ⟨t', by rw [Int.mul_one, Int.zero_add]⟩
    rw [hal] at z
    exact z
  have hat : (h'.push { cls := .type "list", data := .seq acc.toList.toArray }).get? h'.objs.size = some (seqObj "list" acc.toList.toArray 0) := Heap.get?_push_size _ rfl
  refine wpAny_bind (wpAny_holding (wpAny_call_entry_kw slot_list_sort ⟨_, hat, rfl⟩ entry_list_sort ?_ (ksk_l1 _ _)))
  rw [ksk_t1]
  have kp0 : ∀ {g : Heap}, PySem.W.KeepsBut h'.objs.size (h'.push { cls := .type "list", data := .seq acc.toList.toArray }) g → ∀ b o, h'.get? b = some o → g.get? b = some o := fun {g} k b o e =>
    k b o (Nat.ne_of_lt (Heap.lt_size e)) (Heap.get?_push_of_some _ e)
  refine wpAny_mono (PySem.W.keyH_tree (b := false) (kz := (List.range n).map fun k => .int (key k)) (s := { s3 with heap := h'.push { cls := .type "list", data := .seq acc.toList.toArray }, toks := tk })
    (vs := acc.toList) hat (by rw [List.length_map, List.length_range, hal]) (by rw [hal]; omega) ?_ ?_ ?_ (fun j v k hv hkz g tk' kp => ?_)
    (P := fun fin s' => fin = .done (.ret .none) ∧ EP X pins σ Q (.ref h'.objs.size) s')
    (fun g tk' out cc kp hD ko => ⟨rfl, ?_⟩)) (fun fin s' hf' => ?_) fun _ _ e => e
  · intro d hd d' hd'
    obtain ⟨k, _, rfl⟩ := List.mem_map.mp hd
    obtain ⟨k', _, rfl⟩ := List.mem_map.mp hd'
    rfl
  · refine .inr fun d hd => ?_
    obtain ⟨k, _, rfl⟩ := List.mem_map.mp hd
    exact ⟨(fun z => by cases z), (fun xs z => by cases z)⟩
  · intro d hd
    obtain ⟨k, _, rfl⟩ := List.mem_map.mp hd
    have z := hr.un
    show X.A.units + 1 + 1 + _ < cLine
    have e : (PyData.int (key k)).depth ≤ 1 := by simp [PyData.depth]
    omega
  · -- a turn
    have hj : j < n := by
      have := (List.getElem?_eq_some_iff.mp hv).1
      omega
    have ek : PyData.int (key j) = k := by
      rw [List.getElem?_map, List.getElem?_range hj] at hkz
      exact Option.some.inj hkz
    obtain ⟨t', rfl⟩ : ∃ t', v = .int (j : Int) t' := by
      obtain ⟨u, hu, ru⟩ := hvals.get (i := j) (x := V.int j) (by rw [List.getElem?_map, List.getElem?_range hj] <;> rfl)
      rw [hv] at hu
      cases hu
      exact ru
    rw [← ek]
    obtain ⟨m, rest, ej, em⟩ := hrow j hj
    exact lam_turn (s := s3) I6 hk hco hgn hn hne hcell hd1 hd2 hcd hN hσ (up.i ea') cl nf lf (up.t et) ej (up.t em) (hbind _ _ _ _ _) hf hc hr.in1.in1.depth (fun b o e => kp0 kp b o (hk3 b o e)) tk' t'
  · -- the end
    have ho : PySem.W.EachIs (fun v (j : Nat) => ∃ t, v = Value.int (j : Int) t) out ((List.range n).mergeSort fun x y => decide (key x ≤ key y)) := by
      have z := PySem.W.keyedOut_each (fun k => PyData.int (key k)) ko (each_range hvals)
      rw [PySem.W.dataLe_int] at z
      exact z
    have nP : H3 h'.objs.size = none := I7.hok.fresh (Nat.le_refl _)
    refine ⟨.ref h'.objs.size, _, I7.laid (a := h'.objs.size) (o := .lst (((List.range n).mergeSort fun x y => decide (key x ≤ key y)).map fun (k : Nat) => V.int k)) (t' := tk') (h' := g) (fun b u e => kp0 kp b u e) (Nat.le_refl _) (show ObjOk X.prog X.w _ g h'.objs.size (.lst _) from ⟨?_, out, cc, each_vals ho, hD⟩), rfl, q H3 _ up nP⟩
    rw [List.length_map, List.length_mergeSort, List.length_range]
    omega
  · obtain ⟨rfl, hq⟩ := hf'
    exact ⟨_, rfl, wpAny_pure ⟨_, rfl, hq⟩⟩
end
end FB

set_option Elab.async false
set_option maxRecDepth 100000
set_option maxHeartbeats 16000000
/-! kinds.py and plans.py, def by def. -/
namespace FB
open PySem L2

def topS (i : Nat) : Stmt := PySem.Challenge.pw_firstbore_k17_worlds_known_by_hand.main.body.getD i (.Pass ⟨0, 0, 0, 0⟩)
abbrev s_is_integer : Stmt := topS 13
abbrev s_is_number : Stmt := topS 14
abbrev s_is_sequence : Stmt := topS 15
abbrev s_is_tuple_of : Stmt := topS 16
abbrev s_consists_of : Stmt := topS 17
abbrev s_is_name : Stmt := topS 18
abbrev s_is_span : Stmt := topS 47
abbrev s_is_person : Stmt := topS 48
abbrev s_are_people : Stmt := topS 49
abbrev s_is_meeting : Stmt := topS 50
abbrev s_are_meetings : Stmt := topS 51
abbrev s_names_of : Stmt := topS 52
abbrev s_init : Stmt := inClass (topS 53) 0
abbrev s_names : Stmt := inClass (topS 53) 1
abbrev s_place : Stmt := inClass (topS 53) 2
abbrev s_further : Stmt := inClass (topS 53) 4

/-- what the text's top has: built-in names that stay, constants, the class Plan -/
structure Tx (K : PySem.W.Frag) (mg : Str → Option Value) (C : Addr) : Prop where
  n_isinstance : mg "isinstance" = none
  n_len : mg "len" = none
  n_all : mg "all" = none
  n_sorted : mg "sorted" = none
  n_range : mg "range" = none
  n_enumerate : mg "enumerate" = none
  n_zip : mg "zip" = none
  n_tuple : mg "tuple" = none
  n_list : mg "list" = none
  n_int : mg "int" = none
  n_bool : mg "bool" = none
  n_str : mg "str" = none
  n_abs : mg "abs" = none
  letters : ∃ u, mg "LETTERS" = some u ∧ RelV (.str "abcdefghijklmnopqrstuvwxyz") u
  most : ∃ u, mg "MOST_LETTERS" = some u ∧ RelV (.int 4) u
  cl : Cls K C
  nP : NoAttr K C "people"
  nM : NoAttr K C "meetings"

/-! ### the mirror of kinds -/
def numB : V → Bool | .int i => decide (0 ≤ i) | _ => false
def signsIn (s t : Str) : Bool := s.cps.toList.all fun c => decide (c ∈ t.cps.toList)
def letters : Str := "abcdefghijklmnopqrstuvwxyz"
def nameB : V → Bool | .str z => decide (1 ≤ z.length) && decide (z.length ≤ 4) && signsIn z letters | _ => false

section
variable (T : Tb)
def sp_is_integer : Sp := fun vs H Q _ => ∃ x k, vs = [x] ∧ Ty H x k ∧ ∀ H', Up T H H' → Q (.bl (k.isInt && !k.isBl)) H'
def sp_is_number : Sp := fun vs H Q _ => ∃ x k, vs = [x] ∧ Ty H x k ∧ ∀ H', Up T H H' → Q (.bl (numB x)) H'
def sp_is_sequence : Sp := fun vs H Q _ => ∃ x k, vs = [x] ∧ Ty H x k ∧ ∀ H', Up T H H' → Q (.bl (k.isLst || k.isTup)) H'
/-- a tuple, or no tuple at all -/
def sp_is_tuple_of : Sp := fun vs H Q _ => ∃ x m, vs = [x, .int m] ∧ ((∃ a xs, x = .ref a ∧ H a = some (.tup xs) ∧ ∀ H', Up T H H' → Q (.bl (decide ((xs.length : Int) = m))) H') ∨ (∃ k, Ty H x k ∧ k.isTup = false ∧ ∀ H', Up T H H' → Q (.bl false) H'))
def sp_consists_of : Sp := fun vs H Q _ => ∃ z t : Str, vs = [.str z, .str t] ∧ z.length ≤ 1000 ∧ ∀ H', Up T H H' → Q (.bl (signsIn z t)) H'
def sp_is_name : Sp := fun vs H Q _ => ∃ x k, vs = [x] ∧ Ty H x k ∧ (∀ z, x = .str z → z.length ≤ 100000) ∧ ∀ H', Up T H H' → Q (.bl (nameB x)) H'
def sp_names_of : Sp := fun vs H Q _ => ∃ v xs ps, vs = [v] ∧ Seq H v xs ∧ AllV (PerV H) xs ps ∧ xs.length ≤ 1000 ∧ ∀ t H', Up T H H' → TupF H' t (ps.map fun p => V.str p.nm) → Q (.ref t) H'
end

section
variable {P : Program} {w : World} {K : PySem.W.Frag} {mg : Str → Option Value} {base : Heap} {T : Tb} {C f : Addr} {fd : FuncData}
theorem sc1 : FnScope ["value"] ["value"] (defScope s_is_integer) := ⟨rfl, rfl, rfl, by decide +kernel, rfl, by decide +kernel, by decide +kernel⟩
theorem ok_is_integer (F : Fun K "is_integer" "is_integer" s_is_integer f fd) (X : Tx K mg C) : FnOk P w K mg base CX0 1 f fd ["value"] (sp_is_integer T) := by
  refine F.ok sc1 (fun vs H Q E h => ?_) (fun cdv A outer s H vs Q E hr h => ?_)
  · obtain ⟨x, k, rfl, _⟩ := h
    rfl
  · obtain ⟨x, k, rfl, ty, q⟩ := h
    refine ⟨_, pss_one (ps_ret (pe_and (pe_callB call_isi (by rfl) X.n_isinstance (by decide +kernel) (pa_cons (pv 0) (pa_cons (pe_bltn (by rfl) X.n_int (by decide +kernel) (v := .ty "int") rfl) pa_nil)))
      (pe_one (pe_not (pe_callB call_isi (by rfl) X.n_isinstance (by decide +kernel) (pa_cons (pv 0) (pa_cons (pe_bltn (by rfl) X.n_bool (by decide +kernel) (v := .ty "bool") rfl) pa_nil))))))), ?_⟩
    refine ⟨_, rfl, x, .ty "int", _, _, _, rfl, .ty "int", ty.x, kit_ty (kit_int k), ⟨_, rfl, ?_⟩⟩
    cases e : k.isInt with
    | true =>
      refine iteT ⟨_, rfl, x, .ty "bool", _, _, _, rfl, .ty "bool", ty.x, kit_ty (kit_bl k), ⟨_, rfl, ?_⟩⟩
      have z := q H (Up.refl H)
      rw [e, Bool.true_and] at z
      exact z
    | false =>
      refine iteF ?_
      have z := q H (Up.refl H)
      rw [e, Bool.false_and] at z
      exact z
theorem sc2 : FnScope ["value"] ["value"] (defScope s_is_number) := ⟨rfl, rfl, rfl, by decide +kernel, rfl, by decide +kernel, by decide +kernel⟩
theorem ok_is_number (F : Fun K "is_number" "is_number" s_is_number f fd) (c1 : CalF P w K mg base "is_integer" 1 ["value"] (sp_is_integer T)) : FnOk P w K mg base CX0 2 f fd ["value"] (sp_is_number T) := by
  refine F.ok sc2 (fun vs H Q E h => ?_) (fun cdv A outer s H vs Q E hr h => ?_)
  · obtain ⟨x, k, rfl, _⟩ := h
    rfl
  · obtain ⟨x, k, rfl, ty, q⟩ := h
    refine ⟨_, pss_one (ps_ret (pe_and (pe_c c1 hr (by decide) rfl (pa_cons (pv 0) pa_nil)) (pe_one (pe_cmpR op_ge (pv 0) pe_int (nomark _))))), ?_⟩
    refine ⟨_, rfl, x, k, rfl, ty, fun H' u => ⟨_, rfl, ?_⟩⟩
    cases ty with
    | int i => exact iteT ⟨_, rfl, i, 0, rfl, rfl, q H' u⟩
    | bl b => exact iteF (q H' u)
    | _ => exact iteF (q H' u)
theorem sc3 : FnScope ["value"] ["value"] (defScope s_is_sequence) := ⟨rfl, rfl, rfl, by decide +kernel, rfl, by decide +kernel, by decide +kernel⟩
theorem ok_is_sequence (F : Fun K "is_sequence" "is_sequence" s_is_sequence f fd) (X : Tx K mg C) : FnOk P w K mg base CX0 1 f fd ["value"] (sp_is_sequence T) := by
  refine F.ok sc3 (fun vs H Q E h => ?_) (fun cdv A outer s H vs Q E hr h => ?_)
  · obtain ⟨x, k, rfl, _⟩ := h
    rfl
  · obtain ⟨x, k, rfl, ty, q⟩ := h
    refine ⟨_, pss_one (ps_ret (pe_callB call_isiT (by rfl) X.n_isinstance (by decide +kernel) (pa_cons (pv 0) (pa_cons (pe_tup (pa_cons (pe_bltn (by rfl) X.n_list (by decide +kernel) (v := .ty "list") rfl) (pa_cons (pe_bltn (by rfl) X.n_tuple (by decide +kernel) (v := .ty "tuple") rfl) pa_nil))) pa_nil)))), ?_⟩
    refine ⟨_, rfl, by show 2 ≤ sizeLine; decide, fun p hp => ?_⟩
    have u : Up T H (upd H p (.tup [.ty "list", .ty "tuple"])) := Up.new hp
    have hk : PySem.W.kitAny K (.type k.nm) [.type "list", .type "tuple"] = some (k.isLst || k.isTup) := by
      refine kitAny_cons (kit_ty (kit_lst k)) (fun e => kitAny_cons (kit_ty (kit_tup k)) (fun e' => ?_) (fun e' => ?_)) (fun e => ?_)
      · rw [e, e']; rfl
      · rw [e']; simp
      · rw [e]; rfl
    exact ⟨x, p, _, _, _, _, rfl, upd_same, .cons (.ty "list") (.cons (.ty "tuple") .nil), (ty.up u).x, hk, q _ u⟩
theorem sc4 : FnScope ["value", "many"] ["value", "many"] (defScope s_is_tuple_of) := ⟨rfl, rfl, rfl, by decide +kernel, rfl, by decide +kernel, by decide +kernel⟩
theorem ok_is_tuple_of (F : Fun K "is_tuple_of" "is_tuple_of" s_is_tuple_of f fd) (X : Tx K mg C) : FnOk P w K mg base CX0 1 f fd ["value", "many"] (sp_is_tuple_of T) := by
  refine F.ok sc4 (fun vs H Q E h => ?_) (fun cdv A outer s H vs Q E hr h => ?_)
  · obtain ⟨x, k, rfl, _⟩ := h
    rfl
  · obtain ⟨x, m, rfl, h⟩ := h
    refine ⟨_, pss_one (ps_ret (pe_and (pe_callB call_isi (by rfl) X.n_isinstance (by decide +kernel) (pa_cons (pv 0) (pa_cons (pe_bltn (by rfl) X.n_tuple (by decide +kernel) (v := .ty "tuple") rfl) pa_nil)))
      (pe_one (pe_cmpR op_eq (pe_callB call_len (by rfl) X.n_len PySem.boot_len (pa_cons (pv 0) pa_nil)) (pv 1) (nomark _))))), ?_⟩
    rcases h with ⟨a, xs, rfl, ha, q⟩ | ⟨k, ty, hk, q⟩
    · refine ⟨_, rfl, _, .ty "tuple", _, _, _, rfl, .ty "tuple", (Ty.tup ha).x, kit_ty (kit_tup .tup), ⟨_, rfl, iteT ⟨_, rfl, _, xs.length, rfl, .inr ⟨xs, .of ha, rfl⟩, _, rfl, rfl, ?_⟩⟩⟩
      have e : decide (V.int (xs.length : Int) = V.int m) = decide ((xs.length : Int) = m) := by simp
      rw [e]
      exact q H (Up.refl H)
    · refine ⟨_, rfl, _, .ty "tuple", _, _, _, rfl, .ty "tuple", ty.x, kit_ty (kit_tup k), ⟨_, rfl, ?_⟩⟩
      rw [hk]
      exact iteF (q H (Up.refl H))
theorem sc5 : FnScope ["text", "signs", "sign"] ["text", "signs"] (defScope s_consists_of) := ⟨rfl, rfl, rfl, by decide +kernel, rfl, by decide +kernel, by decide +kernel⟩
theorem ok_consists_of (F : Fun K "consists_of" "consists_of" s_consists_of f fd) (X : Tx K mg C) : FnOk P w K mg base CX0 1 f fd ["text", "signs"] (sp_consists_of T) := by
  refine F.ok sc5 (fun vs H Q E h => ?_) (fun cdv A outer s H vs Q E hr h => ?_)
  · obtain ⟨x, k, rfl, _⟩ := h
    rfl
  · obtain ⟨z, t, rfl, hz, q⟩ := h
    refine ⟨_, pss_one (ps_ret (pe_callB (cr_all rfl) (by rfl) X.n_all (by decide +kernel) (pa_cons (pe_lc (own := [("sign", 2)]) (g := gName 2) (tt := tYes) rfl sc5.nd (pi_str (pv 0)) (blkOk_by (own := [("sign", 2)]) (N := ["text", "signs", "sign"]) (sc := defScope s_consists_of) (by decide +kernel))
      (fun _ _ _ _ _ => pg_name (i := 2) sc5.nd rfl (Or.inl rfl)) (fun _ _ _ _ _ => pts_nil) (fun _ _ _ _ _ => pe_cmpR op_in_sign (pv 2) (pv 1) rfl)) pa_nil))), ?_⟩
    have hl : z.cps.size ≤ 1000 := by
      have : z.length = z.cps.size := rfl
      omega
    refine ⟨_, rfl, z, rfl, fun D hD => lc_map (T := T) walk_str (fun i => .bl (decide ((z.cps[i]?).getD 0 ∈ t.cps.toList))) (by omega) hD (fun _ _ => trivial) (fun i x H0 H' Qe hi u y qe => ?_) (fun H' u hL => ?_)⟩
    · obtain ⟨rfl, c, hc, rfl⟩ := y
      refine ⟨rfl, _, rfl, _, rfl, c, t, rfl, rfl, ?_⟩
      have z := qe H' (Up.refl H')
      rw [hc] at z
      exact z
    · refine ⟨D, (List.range z.cps.size).map (fun i => decide ((z.cps[i]?).getD 0 ∈ t.cps.toList)), rfl, .of (by rw [hL, List.map_map]; rfl), ?_⟩
      have e : (((List.range z.cps.size).map fun i => decide ((z.cps[i]?).getD 0 ∈ t.cps.toList)).all id) = signsIn z t := by
        unfold signsIn
        rw [Bool.eq_iff_iff]
        simp only [List.all_map, List.all_eq_true, List.mem_range, Function.comp_apply, id_eq, decide_eq_true_eq, Array.mem_toList_iff]
        constructor
        · intro h c hc
          obtain ⟨i, hi, rfl⟩ := Array.mem_iff_getElem.mp hc
          have z := h i hi
          rwa [Array.getElem?_eq_getElem hi] at z
        · intro h i hi
          rw [Array.getElem?_eq_getElem hi]
          exact h _ (Array.getElem_mem hi)
      rw [e]
      exact q H' u
theorem sc6 : FnScope ["value"] ["value"] (defScope s_is_name) := ⟨rfl, rfl, rfl, by decide +kernel, rfl, by decide +kernel, by decide +kernel⟩
theorem ok_is_name (F : Fun K "is_name" "is_name" s_is_name f fd) (X : Tx K mg C) (c1 : CalF P w K mg base "consists_of" 1 ["text", "signs"] (sp_consists_of T)) : FnOk P w K mg base CX0 2 f fd ["value"] (sp_is_name T) := by
  refine F.ok sc6 (fun vs H Q E h => ?_) (fun cdv A outer s H vs Q E hr h => ?_)
  · obtain ⟨x, k, rfl, _⟩ := h
    rfl
  · obtain ⟨x, k, rfl, ty, hx, q⟩ := h
    refine ⟨_, pss_one (ps_ret (pe_and (pe_callB call_isi (by rfl) X.n_isinstance (by decide +kernel) (pa_cons (pv 0) (pa_cons (pe_bltn (by rfl) X.n_str (by decide +kernel) (v := .ty "str") rfl) pa_nil)))
      (pe_and (pe_chain op_le op_le pe_int (pe_callB call_len (by rfl) X.n_len PySem.boot_len (pa_cons (pv 0) pa_nil)) (pe_g X.most (by rfl))) (pe_one (pe_c c1 hr (by decide) rfl (pa_cons (pv 0) (pa_cons (pe_g X.letters (by rfl)) pa_nil))))))), ?_⟩
    refine ⟨_, rfl, _, .ty "str", _, _, _, rfl, .ty "str", ty.x, kit_ty (kit_str k), ⟨_, rfl, ?_⟩⟩
    cases ty with
    | str z =>
      have hz := hx z rfl
      have hs : sizeLine = 16777216 := sizeLine_eq
      have nb : nameB (.str z) = (decide (1 ≤ z.length) && decide (z.length ≤ 4) && signsIn z letters) := rfl
      have q' := q
      rw [nb] at q'
      refine iteT ⟨_, rfl, _, z.length, rfl, ⟨by omega, rfl⟩, 1, z.length, rfl, rfl, _, rfl, ?_⟩
      by_cases h1 : 1 ≤ z.length
      · rw [decide_eq_true (show (1 : Int) ≤ (z.length : Nat) by omega)]
        refine iteT ⟨z.length, 4, rfl, rfl, _, rfl, ?_⟩
        by_cases h2 : z.length ≤ 4
        · rw [decide_eq_true (show ((z.length : Nat) : Int) ≤ 4 by omega)]
          refine iteT ⟨_, rfl, z, letters, rfl, by omega, fun H' u => ?_⟩
          have e := q' H' u
          rw [decide_eq_true h1, decide_eq_true h2, Bool.true_and, Bool.true_and] at e
          exact e
        · rw [decide_eq_false (show ¬ ((z.length : Nat) : Int) ≤ 4 by omega)]
          refine iteF ?_
          have e := q' H (Up.refl H)
          rw [decide_eq_false h2, Bool.and_false, Bool.false_and] at e
          exact e
      · rw [decide_eq_false (show ¬ (1 : Int) ≤ (z.length : Nat) by omega)]
        refine iteF ⟨_, rfl, ?_⟩
        refine iteF ?_
        have e := q' H (Up.refl H)
        rw [decide_eq_false h1, Bool.false_and, Bool.false_and] at e
        exact e
    | _ => exact iteF (q H (Up.refl H))
theorem sc7 : FnScope ["people", "person"] ["people"] (defScope s_names_of) := ⟨rfl, rfl, rfl, by decide +kernel, rfl, by decide +kernel, by decide +kernel⟩
theorem ok_names_of (F : Fun K "names_of" "names_of" s_names_of f fd) (X : Tx K mg C) : FnOk P w K mg base CX0 1 f fd ["people"] (sp_names_of T) := by
  refine F.ok sc7 (fun vs H Q E h => ?_) (fun cdv A outer s H vs Q E hr h => ?_)
  · obtain ⟨x, k, _, rfl, _⟩ := h
    rfl
  · obtain ⟨v, xs, ps, rfl, hs, ha, hl, q⟩ := h
    obtain ⟨c, rfl, hc⟩ := hs.sq (K := K)
    refine ⟨_, pss_one (ps_ret (pe_callTy call_tupleF (by rfl) X.n_tuple (by decide +kernel) (pa_cons (pe_lc (own := [("person", 1)]) (g := gName 1) (tt := tYes) rfl sc7.nd (pi_sq (pv 0)) (blkOk_by (own := [("person", 1)]) (N := ["people", "person"]) (sc := defScope s_names_of) (by decide +kernel))
      (fun _ _ _ _ _ => pg_name (i := 1) sc7.nd rfl (Or.inl rfl)) (fun _ _ _ _ _ => pts_nil) (fun _ _ _ _ _ => pe_ix (r := rIxT K) ix_tup (pv 1) pe_int (fun _ _ => rfl))) pa_nil))), ?_⟩
    refine ⟨_, rfl, c, xs, rfl, hc, fun D hD => lc_map (T := T) walk_sq (fun i => .str ((ps[i]?).elim (Str.ofString "") (·.nm))) (by omega) hD (fun H' u => hc.up u) (fun i x H0 H' Qe hi u y qe => ?_) (fun H' u hL => ?_)⟩
    · obtain ⟨rfl, hx⟩ := y
      obtain ⟨p, hp, t, s', rfl, ht, _⟩ := ha.get hx
      refine ⟨rfl, _, rfl, t, _, 0, .str p.nm, rfl, rfl, .of (u.t ht), rfl, ?_⟩
      have z := qe H' (Up.refl H')
      rw [hp] at z
      exact z
    · refine ⟨D, _, rfl, .of hL, fun l H2 u2 hl => ?_⟩
      refine q l _ (u.trans (u2 T)) ?_
      have e : ((List.range xs.length).map fun i => V.str ((ps[i]?).elim (Str.ofString "") (·.nm))) = ps.map fun p => V.str p.nm := ?_
      · rw [e] at hl
        exact hl
      apply List.ext_getElem?
      intro i
      by_cases hi : i < xs.length
      · rw [List.getElem?_map, List.getElem?_range hi, List.getElem?_map]
        have hi2 : i < ps.length := by rw [← ha.1]; exact hi
        rw [List.getElem?_eq_getElem hi2]
        simp [List.getElem?_eq_getElem hi2]
      · rw [List.getElem?_eq_none (by simp; omega), List.getElem?_eq_none (by simp; have := ha.1; omega)]
end
end FB

set_option Elab.async false
set_option maxRecDepth 100000
set_option maxHeartbeats 16000000
/-! plans.py -/
namespace FB
open PySem L2

def GoodSpan : Option (Int × Int) → Prop | none => True | some p => 0 ≤ p.1 ∧ p.1 ≤ p.2
structure GoodPer (p : Per) : Prop where
  nm : nameB (.str p.nm) = true
  wt : 1 ≤ p.wt
  sh : 0 ≤ p.sh
  sp : GoodSpan p.sp
structure GoodMee (ns : List Str) (m : Mee) : Prop where
  dy : 0 ≤ m.dy
  a : m.a ∈ ns
  b : m.b ∈ ns
  ne : m.a ≠ m.b
def namesOf (ps : List Per) : List Str := ps.map (·.nm)
structure GoodPpl (ps : List Per) : Prop where
  all : ∀ p ∈ ps, GoodPer p
  nd : (namesOf ps).Nodup
  ne : ps ≠ []
  few : ps.length ≤ 1000
theorem nameB_len {z : Str} (h : nameB (.str z) = true) : z.length ≤ 100000 := by
  have h : (decide (1 ≤ z.length) && decide (z.length ≤ 4) && signsIn z letters) = true := h
  simp only [Bool.and_eq_true, decide_eq_true_eq] at h
  omega
section
variable (T : Tb)
def sp_is_span : Sp := fun vs H Q _ => ∃ v s, vs = [v] ∧ SpanV H v s ∧ GoodSpan s ∧ ∀ H', Up T H H' → Q (.bl true) H'
def sp_is_person : Sp := fun vs H Q _ => ∃ v p, vs = [v] ∧ PerV H v p ∧ GoodPer p ∧ ∀ H', Up T H H' → Q (.bl true) H'
def sp_are_people : Sp := fun vs H Q _ => ∃ v xs ps, vs = [v] ∧ Seq H v xs ∧ AllV (PerV H) xs ps ∧ GoodPpl ps ∧ ∀ H', Up T H H' → Q (.bl true) H'
def sp_is_meeting (K : PySem.W.Frag) : Sp := fun vs H Q _ => ∃ v m t ns, vs = [v, .ref t] ∧ MeeV H v m ∧ SqT K H t (ns.map V.str) ∧ GoodMee ns m ∧ ∀ H', Up T H H' → Q (.bl true) H'
def sp_are_meetings (K : PySem.W.Frag) : Sp := fun vs H Q _ => ∃ v xs ms t ns, vs = [v, .ref t] ∧ Seq H v xs ∧ AllV (MeeV H) xs ms ∧ xs.length ≤ 1000 ∧ SqT K H t (ns.map V.str) ∧ (∀ m ∈ ms, GoodMee ns m) ∧ ∀ H', Up T H H' → Q (.bl true) H'
end
theorem names_map (ps : List Per) : (namesOf ps).map V.str = ps.map fun p => V.str p.nm := by
  unfold namesOf
  rw [List.map_map] <;> rfl
theorem inV_str {z : Str} {ns : List Str} : inV (.str z) (ns.map V.str) = decide (z ∈ ns) := by
  unfold inV
  rw [List.any_map, Bool.eq_iff_iff]
  simp only [List.any_eq_true, Function.comp_apply, decide_eq_true_eq]
  constructor
  · rintro ⟨y, hy, e⟩
    have e : (y == z) = true := e
    rw [beq_iff_eq] at e
    rw [← e]
    exact hy
  · intro h
    exact ⟨z, h, (beq_iff_eq (a := z) (b := z)).mpr rfl⟩
theorem all_flat (ns : List Str) : (ns.map V.str).all flatV = true := by
  rw [List.all_map]
  exact List.all_eq_true.mpr fun _ _ => rfl
theorem decF {a b : V} (h : a ≠ b) : decide (a = b) = false := decide_eq_false h
section
variable {P : Program} {w : World} {K : PySem.W.Frag} {mg : Str → Option Value} {base : Heap} {T : Tb} {C f : Addr} {fd : FuncData}
theorem sc8 : FnScope ["value"] ["value"] (defScope s_is_span) := ⟨rfl, rfl, rfl, by decide +kernel, rfl, by decide +kernel, by decide +kernel⟩
theorem ok_is_span (F : Fun K "is_span" "is_span" s_is_span f fd) (c1 : CalF P w K mg base "is_tuple_of" 1 ["value", "many"] (sp_is_tuple_of T)) (c2 : CalF P w K mg base "is_number" 2 ["value"] (sp_is_number T)) : FnOk P w K mg base CX0 3 f fd ["value"] (sp_is_span T) := by
  refine F.ok sc8 (fun vs H Q E h => ?_) (fun cdv A outer s H vs Q E hr h => ?_)
  · obtain ⟨x, k, rfl, _⟩ := h
    rfl
  · obtain ⟨v, s, rfl, hv, hg, q⟩ := h
    refine ⟨_, pss_cons (ps_if (pt_cmpR op_isN (pv 0) pe_non (nomark _)) (pss_one (ps_ret pe_bl)) pss_nil)
      (pss_cons (ps_if (pt_not (pt_val (pe_c c1 hr (by decide) rfl (pa_cons (pv 0) (pa_cons pe_int pa_nil))))) (pss_one (ps_ret pe_bl)) pss_nil)
      (pss_one (ps_ret (pe_and (pe_c c2 hr (by decide) rfl (pa_cons (pe_ix ix_tup (pv 0) pe_int (fun _ _ => rfl)) pa_nil)) (pe_and (pe_c c2 hr (by decide) rfl (pa_cons (pe_ix ix_tup (pv 0) pe_int (fun _ _ => rfl)) pa_nil))
        (pe_one (pe_cmpR op_le (pe_ix ix_tup (pv 0) pe_int (fun _ _ => rfl)) (pe_ix ix_tup (pv 0) pe_int (fun _ _ => rfl)) (nomark _)))))))), ?_⟩
    cases s with
    | none =>
      have hv : v = .non := hv
      subst hv
      exact ⟨_, rfl, rfl, true, rfl, iteT (q H (Up.refl H))⟩
    | some p =>
      obtain ⟨t, rfl, ht⟩ := hv
      obtain ⟨g1, g2⟩ := hg
      refine ⟨_, rfl, rfl, false, rfl, iteF ?_⟩
      refine ⟨_, rfl, _, 2, rfl, .inl ⟨t, _, rfl, ht, fun H1 u1 => ⟨true, rfl, iteF ?_⟩⟩⟩
      refine ⟨_, rfl, t, _, 0, .int p.1, rfl, rfl, .of (u1.t ht), rfl, _, .int, rfl, .int _, fun H2 u2 => ⟨true, ?_, iteT ?_⟩⟩
      · show V.bl (decide (0 ≤ p.1)) = V.bl true
        rw [decide_eq_true g1]
      have u12 := u1.trans u2
      refine ⟨_, rfl, t, _, 1, .int p.2, rfl, rfl, .of (u12.t ht), rfl, _, .int, rfl, .int _, fun H3 u3 => ⟨true, ?_, iteT ?_⟩⟩
      · show V.bl (decide (0 ≤ p.2)) = V.bl true
        rw [decide_eq_true (by omega)]
      have u13 := u12.trans u3
      refine ⟨_, rfl, t, _, 0, .int p.1, rfl, rfl, .of (u13.t ht), rfl, _, rfl, t, _, 1, .int p.2, rfl, rfl, .of (u13.t ht), rfl, p.1, p.2, rfl, rfl, ?_⟩
      show Q (.bl (decide (p.1 ≤ p.2))) H3
      rw [decide_eq_true g2]
      exact q H3 u13
theorem sc9 : FnScope ["value", "name", "wait", "show", "span"] ["value"] (defScope s_is_person) := ⟨rfl, rfl, rfl, by decide +kernel, rfl, by decide +kernel, by decide +kernel⟩
theorem ok_is_person (F : Fun K "is_person" "is_person" s_is_person f fd) (c1 : CalF P w K mg base "is_tuple_of" 1 ["value", "many"] (sp_is_tuple_of T)) (c2 : CalF P w K mg base "is_number" 2 ["value"] (sp_is_number T)) (c3 : CalF P w K mg base "is_name" 2 ["value"] (sp_is_name T)) (c4 : CalF P w K mg base "is_span" 3 ["value"] (sp_is_span T)) :
    FnOk P w K mg base CX0 4 f fd ["value"] (sp_is_person T) := by
  refine F.ok sc9 (fun vs H Q E h => ?_) (fun cdv A outer s H vs Q E hr h => ?_)
  · obtain ⟨x, k, rfl, _⟩ := h
    rfl
  · obtain ⟨v, p, rfl, ⟨t, sv, rfl, ht, hsv⟩, hg, q⟩ := h
    refine ⟨_, pss_cons (ps_if (pt_not (pt_val (pe_c c1 hr (by decide) rfl (pa_cons (pv 0) (pa_cons pe_int pa_nil))))) (pss_one (ps_ret pe_bl)) pss_nil)
      (pss_cons (ps_asg (pv 0) (pg_tup (by rfl) (pgs_cons (pg_name (i := 1) sc9.nd rfl (.inl rfl)) (pgs_cons (pg_name (i := 2) sc9.nd rfl (.inl rfl)) (pgs_cons (pg_name (i := 3) sc9.nd rfl (.inl rfl)) (pgs_cons (pg_name (i := 4) sc9.nd rfl (.inl rfl)) pgs_nil))))))
      (pss_one (ps_ret (pe_and (pe_c c3 hr (by decide) rfl (pa_cons (pv 1) pa_nil)) (pe_and (pe_c c2 hr (by decide) rfl (pa_cons (pv 2) pa_nil)) (pe_and (pe_cmpR op_ge (pv 2) pe_int (nomark _)) (pe_and (pe_c c2 hr (by decide) rfl (pa_cons (pv 3) pa_nil)) (pe_one (pe_c c4 hr (by decide) rfl (pa_cons (pv 4) pa_nil)))))))))), ?_⟩
    refine ⟨_, rfl, _, 4, rfl, .inl ⟨t, _, rfl, ht, fun H1 u1 => ⟨true, rfl, iteF ?_⟩⟩⟩
    refine ⟨_, rfl, t, _, rfl, .of (u1.t ht), rfl, _, _, rfl, _, _, rfl, _, _, rfl, _, _, rfl, rfl, ?_⟩
    refine ⟨_, rfl, _, .str, rfl, .str _, fun z e => ?_, fun H2 u2 => ⟨true, ?_, iteT ?_⟩⟩
    · cases e
      exact nameB_len hg.nm
    · show V.bl (nameB (.str p.nm)) = V.bl true
      rw [hg.nm]
    refine ⟨_, rfl, _, .int, rfl, .int _, fun H3 u3 => ⟨true, ?_, iteT ?_⟩⟩
    · show V.bl (decide (0 ≤ p.wt)) = V.bl true
      rw [decide_eq_true (by have := hg.wt; omega)]
    refine ⟨_, rfl, p.wt, 1, rfl, rfl, true, ?_, iteT ?_⟩
    · show V.bl (decide (1 ≤ p.wt)) = V.bl true
      rw [decide_eq_true hg.wt]
    refine ⟨_, rfl, _, .int, rfl, .int _, fun H4 u4 => ⟨true, ?_, iteT ?_⟩⟩
    · show V.bl (decide (0 ≤ p.sh)) = V.bl true
      rw [decide_eq_true hg.sh]
    have u := ((u1.trans u2).trans u3).trans u4
    exact ⟨_, rfl, _, p.sp, rfl, hsv.up u, hg.sp, fun H5 u5 => q H5 (u.trans u5)⟩
theorem sc10 : FnScope ["value", "names", "person"] ["value"] (defScope s_are_people) := ⟨rfl, rfl, rfl, by decide +kernel, rfl, by decide +kernel, by decide +kernel⟩
theorem Seq.ty {H : Hp} {v : V} {xs : List V} (h : Seq H v xs) : ∃ k, Ty H v k ∧ (k.isLst || k.isTup) = true := by
  obtain ⟨a, rfl, h | h⟩ := h
  · exact ⟨.lst, .lst h, rfl⟩
  · exact ⟨.tup, .tup h, rfl⟩
theorem Seq.lenV {K : PySem.W.Frag} {H : Hp} {v : V} {xs : List V} (h : Seq H v xs) : LenV K v H xs.length := by
  obtain ⟨a, rfl, h | h⟩ := h
  · exact .inl ⟨xs, .of h, rfl⟩
  · exact .inr ⟨xs, .of h, rfl⟩
theorem ok_are_people (F : Fun K "are_people" "are_people" s_are_people f fd) (X : Tx K mg C) (c1 : CalF P w K mg base "is_sequence" 1 ["value"] (sp_is_sequence T)) (c2 : CalF P w K mg base "is_person" 4 ["value"] (sp_is_person T)) :
    FnOk P w K mg base CX0 5 f fd ["value"] (sp_are_people T) := by
  refine F.ok sc10 (fun vs H Q E h => ?_) (fun cdv A outer s H vs Q E hr h => ?_)
  · obtain ⟨x, k, _, rfl, _⟩ := h
    rfl
  · obtain ⟨v, xs, ps, rfl, hs, ha, hg, q⟩ := h
    refine ⟨_, pss_cons (ps_if (PW.pt (pw_or (pt_not (pt_val (pe_c c1 hr (by decide) rfl (pa_cons (pv 0) pa_nil)))) (pw_or1 (pt_cmpR op_eq (pe_callB call_len (by rfl) X.n_len PySem.boot_len (pa_cons (pv 0) pa_nil)) pe_int (nomark _))))) (pss_one (ps_ret pe_bl)) pss_nil)
      (pss_cons (ps_set (i := 1) sc10.nd rfl (.inl rfl) (pe_lst pa_nil))
      (pss_cons (ps_for PassesOwn.never rfl (pi_sq (pv 0)) (pg_name (i := 2) sc10.nd rfl (.inl rfl))
        (pss_cons (ps_if (PW.pt (pw_or (pt_not (pt_val (pe_c c2 hr (by decide) rfl (pa_cons (pv 2) pa_nil)))) (pw_or1 (pt_cmpR op_in_seq (pe_ix ix_tup (pv 2) pe_int (fun _ _ => rfl)) (pv 1) rfl)))) (pss_one (ps_ret pe_bl)) pss_nil)
          (pss_one (ps_expr (pe_bm PySem.F.plainAttrs_list PySem.F.slot_list_append PySem.F.type_list_append mt_append (pv 1) (pa_cons (pe_ix ix_tup (pv 2) pe_int (fun _ _ => rfl)) pa_nil))))))
      (pss_one (ps_ret pe_bl)))), ?_⟩
    obtain ⟨k, ty, hk⟩ := hs.ty
    refine ⟨_, rfl, _, k, rfl, ty, fun H1 u1 => ⟨true, by rw [hk], iteF ?_⟩⟩
    have hs1 := hs.up u1
    have hl := hg.few
    have hxl := ha.1
    have hpos : 0 < ps.length := List.length_pos_iff.mpr hg.ne
    refine ⟨_, rfl, _, xs.length, rfl, hs1.lenV, rfl, false, ?_, iteF ?_⟩
    · show V.bl (decide (V.int (xs.length : Nat) = V.int 0)) = V.bl false
      rw [decide_eq_false (fun z => by injection z; omega)]
    refine ⟨Nat.zero_le _, fun l hl0 => ?_⟩
    have u2 : Up T H1 (upd H1 l (.lst [])) := Up.new hl0
    obtain ⟨c, rfl, hc⟩ := hs1.sq (K := K)
    refine ⟨_, rfl, c, xs, rfl, hc.up u2, for_it walk_sq (fun i σ H' => ∃ o, σ = [some (.ref c.2), some (.ref l), o] ∧ Up T H1 H' ∧ H' l = some (.lst (((namesOf ps).take i).map V.str)))
      ⟨none, rfl, u2, upd_same⟩ (fun i σ H' _ ⟨_, _, u, _⟩ => hc.up u) (fun i x σ H' H2 hi p y => ?_) (fun σ H' p => ?_)⟩
    · obtain ⟨o, rfl, u, hL⟩ := p
      obtain ⟨rfl, hx⟩ := y
      obtain ⟨p, hp, hv⟩ := ha.get hx
      have hpm : p ∈ ps := List.mem_of_getElem? hp
      have hu := u1.trans u
      have hv' := hv.up hu
      refine ⟨_, rfl, _, p, rfl, hv', hg.all p hpm, fun H3 u3 => ⟨true, rfl, iteF ?_⟩⟩
      obtain ⟨t, sv, rfl, ht, _⟩ := hv'.up u3
      have hL3 := u3.l hL
      have hni : inV (.str p.nm) (((namesOf ps).take i).map V.str) = false := by
        rw [inV_str]
        refine decide_eq_false fun hm => ?_
        have hnd := hg.nd
        obtain ⟨j, hj2⟩ := List.mem_iff_getElem?.mp hm
        have hj1 := (List.getElem?_eq_some_iff.mp hj2).1
        have hj : j < i := by
          rw [List.length_take] at hj1
          omega
        rw [List.getElem?_take_of_lt hj] at hj2
        have h3 : (namesOf ps)[i]? = some p.nm := by
          unfold namesOf
          rw [List.getElem?_map, hp] <;> rfl
        have := nd_ix hnd hj2 h3
        omega
      refine ⟨_, rfl, t, _, 0, .str p.nm, rfl, rfl, .of ht, rfl, _, rfl, l, _, rfl, .inl (.of hL3), rfl, all_flat _, false, by rw [hni]; rfl, iteF ?_⟩
      have hsz : sizeLine = 16777216 := sizeLine_eq
      refine ⟨_, rfl, .inl ⟨rfl, _, SqL.of hL3⟩, _, rfl, t, _, 0, .str p.nm, rfl, rfl, .of ht, rfl, l, _, _, rfl, rfl, hL3, ?_, ?_⟩
      · rw [List.length_map, List.length_take]
        have := List.length_map (f := fun p : Per => p.nm) (as := ps)
        omega
      · refine ⟨_, rfl, (u.trans u3).mutL hl0 hL3, ?_⟩
        rw [upd_same]
        have e : (namesOf ps).take (i + 1) = (namesOf ps).take i ++ [p.nm] := by
          rw [List.take_add_one]
          unfold namesOf
          rw [List.getElem?_map, hp] <;> rfl
        rw [e, List.map_append] <;> rfl
    · obtain ⟨o, rfl, u, hL⟩ := p
      exact q H' (u1.trans u)
theorem sc11 : FnScope ["value", "names", "day", "a", "b"] ["value", "names"] (defScope s_is_meeting) := ⟨rfl, rfl, rfl, by decide +kernel, rfl, by decide +kernel, by decide +kernel⟩
theorem ok_is_meeting (F : Fun K "is_meeting" "is_meeting" s_is_meeting f fd) (c1 : CalF P w K mg base "is_tuple_of" 1 ["value", "many"] (sp_is_tuple_of T)) (c2 : CalF P w K mg base "is_number" 2 ["value"] (sp_is_number T)) :
    FnOk P w K mg base CX0 3 f fd ["value", "names"] (sp_is_meeting T K) := by
  refine F.ok sc11 (fun vs H Q E h => ?_) (fun cdv A outer s H vs Q E hr h => ?_)
  · obtain ⟨x, k, _, _, rfl, _⟩ := h
    rfl
  · obtain ⟨v, m, tn, ns, rfl, ⟨t, rfl, ht⟩, hn, hg, q⟩ := h
    refine ⟨_, pss_cons (ps_if (pt_not (pt_val (pe_c c1 hr (by decide) rfl (pa_cons (pv 0) (pa_cons pe_int pa_nil))))) (pss_one (ps_ret pe_bl)) pss_nil)
      (pss_cons (ps_asg (pv 0) (pg_tup (by rfl) (pgs_cons (pg_name (i := 2) sc11.nd rfl (.inl rfl)) (pgs_cons (pg_name (i := 3) sc11.nd rfl (.inl rfl)) (pgs_cons (pg_name (i := 4) sc11.nd rfl (.inl rfl)) pgs_nil)))))
      (pss_one (ps_ret (pe_and (pe_c c2 hr (by decide) rfl (pa_cons (pv 2) pa_nil)) (pe_and (pe_cmpR op_in_seq (pv 3) (pv 1) rfl) (pe_and (pe_cmpR op_in_seq (pv 4) (pv 1) rfl) (pe_one (pe_cmpR op_ne (pv 3) (pv 4) (nomark _))))))))), ?_⟩
    refine ⟨_, rfl, _, 3, rfl, .inl ⟨t, _, rfl, ht, fun H1 u1 => ⟨true, rfl, iteF ?_⟩⟩⟩
    refine ⟨_, rfl, t, _, rfl, .of (u1.t ht), rfl, _, _, rfl, _, _, rfl, _, _, rfl, rfl, ?_⟩
    refine ⟨_, rfl, _, .int, rfl, .int _, fun H2 u2 => ⟨true, ?_, iteT ?_⟩⟩
    · show V.bl (decide (0 ≤ m.dy)) = V.bl true
      rw [decide_eq_true hg.dy]
    have hn2 := (u1.trans u2).st hn
    refine ⟨_, rfl, _, rfl, tn, _, rfl, .inr hn2, rfl, all_flat _, true, ?_, iteT ?_⟩
    · rw [inV_str, decide_eq_true hg.a] <;> rfl
    refine ⟨_, rfl, _, rfl, tn, _, rfl, .inr hn2, rfl, all_flat _, true, ?_, iteT ?_⟩
    · rw [inV_str, decide_eq_true hg.b] <;> rfl
    refine ⟨_, rfl, _, rfl, rfl, ?_⟩
    have e : decide (V.str m.a = V.str m.b) = false := decide_eq_false fun z => hg.ne (by injection z)
    rw [e]
    exact q H2 (u1.trans u2)
theorem sc12 : FnScope ["value", "names", "meeting"] ["value", "names"] (defScope s_are_meetings) := ⟨rfl, rfl, rfl, by decide +kernel, rfl, by decide +kernel, by decide +kernel⟩
theorem ok_are_meetings (F : Fun K "are_meetings" "are_meetings" s_are_meetings f fd) (X : Tx K mg C) (c1 : CalF P w K mg base "is_sequence" 1 ["value"] (sp_is_sequence T)) (c2 : CalF P w K mg base "is_meeting" 3 ["value", "names"] (sp_is_meeting T K)) :
    FnOk P w K mg base CX0 4 f fd ["value", "names"] (sp_are_meetings T K) := by
  refine F.ok sc12 (fun vs H Q E h => ?_) (fun cdv A outer s H vs Q E hr h => ?_)
  · obtain ⟨x, k, _, _, _, rfl, _⟩ := h
    rfl
  · obtain ⟨v, xs, ms, tn, ns, rfl, hs, ha, hl, hn, hg, q⟩ := h
    refine ⟨_, pss_one (ps_ret (pe_and (pe_c c1 hr (by decide) rfl (pa_cons (pv 0) pa_nil)) (pe_one (pe_callB (cr_all rfl) (by rfl) X.n_all (by decide +kernel) (pa_cons (pe_lc (own := [("meeting", 2)]) (g := gName 2) (tt := tYes) rfl sc12.nd (pi_sq (pv 0)) (blkOk_by (own := [("meeting", 2)]) (N := ["value", "names", "meeting"]) (sc := defScope s_are_meetings) (by decide +kernel))
      (fun _ _ _ _ _ => pg_name (i := 2) sc12.nd rfl (Or.inl rfl)) (fun _ _ _ _ _ => pts_nil) (fun _ _ _ _ _ => pe_c c2 hr (by decide) rfl (pa_cons (pv 2) (pa_cons (pv 1) pa_nil)))) pa_nil))))), ?_⟩
    obtain ⟨k, ty, hk⟩ := hs.ty
    refine ⟨_, rfl, _, k, rfl, ty, fun H1 u1 => ⟨true, by rw [hk], iteT ?_⟩⟩
    obtain ⟨c, rfl, hc⟩ := (hs.up u1).sq (K := K)
    refine ⟨_, rfl, c, xs, rfl, hc, fun D hD => lc_map (T := T) walk_sq (fun _ => .bl true) (by omega) hD (fun H' u => hc.up u) (fun i x H0 H' Qe hi u y qe => ?_) (fun H' u hL => ?_)⟩
    · obtain ⟨rfl, hx⟩ := y
      obtain ⟨m, hm, hv⟩ := ha.get hx
      have uu := u1.trans u
      exact ⟨rfl, _, rfl, _, rfl, _, m, tn, ns, rfl, hv.up uu, uu.st hn, hg m (List.mem_of_getElem? hm), fun H3 u3 => qe H3 u3⟩
    · refine ⟨D, (List.range xs.length).map fun _ => true, rfl, .of (by rw [hL, List.map_map]; rfl), ?_⟩
      have e : (((List.range xs.length).map fun _ => true).all id) = true := by
        rw [List.all_eq_true]
        intro b hb
        obtain ⟨_, _, rfl⟩ := List.mem_map.mp hb
        rfl
      rw [e]
      exact q H' (u1.trans u)

/-! ### the class Plan -/
theorem pm_ : ¬ (("people" : Str) = "meetings") := by decide +kernel
def pf (tp tm : Addr) : List (Str × V) := putF "meetings" (.ref tm) (putF "people" (.ref tp) [])
theorem pf_p (tp tm : Addr) : (pf tp tm).lookup ("people" : Str) = some (.ref tp) := by
  unfold pf
  rw [lookup_putF, if_neg pm_, lookup_putF, if_pos rfl]
theorem pf_m (tp tm : Addr) : (pf tp tm).lookup ("meetings" : Str) = some (.ref tm) := by
  unfold pf
  rw [lookup_putF, if_pos rfl]
theorem pf_no (tp tm : Addr) {m : Str} (h1 : ¬ m = "meetings") (h2 : ¬ m = "people") : (pf tp tm).lookup m = none := by
  unfold pf
  rw [lookup_putF, if_neg h1, lookup_putF, if_neg h2]
  all_goals rfl
/-- a plan of these people and meetings stands at v -/
def PlanAt (C : Addr) (H : Hp) (v : V) (ps : List Per) (ms : List Mee) : Prop := ∃ (a dx tp tm : Addr) (xs ys : List V), v = .ref a ∧ H a = some (.ins C dx (pf tp tm)) ∧ H tp = some (.tup xs) ∧ AllV (PerV H) xs ps ∧ H tm = some (.tup ys) ∧ AllV (MeeV H) ys ms
theorem PlanAt.up {T : Tb} {C : Addr} {H H' : Hp} {v : V} {ps : List Per} {ms : List Mee} (h : PlanAt C H v ps ms) (e : Up T H H') : PlanAt C H' v ps ms := by
  obtain ⟨a, dx, tp, tm, xs, ys, h1, h2, h3, h4, h5, h6⟩ := h
  exact ⟨a, dx, tp, tm, xs, ys, h1, e.i h2, e.t h3, h4.mono fun _ _ r => r.up e, e.t h5, h6.mono fun _ _ r => r.up e⟩
/-- good people and meetings, not too many -/
structure Good (ps : List Per) (ms : List Mee) : Prop where
  ppl : GoodPpl ps
  mee : ∀ m ∈ ms, GoodMee (namesOf ps) m
  few : ms.length ≤ 1000
theorem Up.mutI {T : Tb} {H H' : Hp} {p C dx : Addr} {fs : List (Str × V)} {u : HO} (e : Up T H H') (h : H p = none) (h' : H' p = some (.ins C dx fs)) : Up T H (upd H' p u) := by
  refine ⟨fun b o q n => ?_, fun t => ?_⟩
  · rw [upd_ne (ne_of_none q h)]
    exact e.1 b o q n
  · intro q hq
    obtain ⟨ps, a1, a2, a3⟩ := e.2 t q hq
    have n1 : q.1 ≠ p := fun z => by
      rw [z, h'] at a1
      cases a1
    refine ⟨ps, by rw [upd_ne n1]; exact a1, a2, fun pos cv hc => ?_⟩
    obtain ⟨c, e1, e2⟩ := a3 pos cv hc
    have n2 : c ≠ p := fun z => by
      rw [z, h'] at e2
      unfold LamX.CodeO at e2
      cases e2
    exact ⟨c, e1, by rw [upd_ne n2]; exact e2⟩
end
section
variable (T : Tb) (C : Addr)
def sp_init : Sp := fun vs H Q _ => ∃ (H0 : Hp) (x dx : Addr) (v1 v2 : V) (xs ys : List V) (ps : List Per) (ms : List Mee), vs = [.ref x, v1, v2] ∧ Up T H0 H ∧ H0 x = none ∧ H x = some (.ins C dx []) ∧
  Seq H0 v1 xs ∧ AllV (PerV H0) xs ps ∧ Seq H0 v2 ys ∧ AllV (MeeV H0) ys ms ∧ Good ps ms ∧ ∀ H', Up T H0 H' → PlanAt C H' (.ref x) ps ms → Q .non H'
def sp_names : Sp := fun vs H Q _ => ∃ v ps ms, vs = [v] ∧ PlanAt C H v ps ms ∧ Good ps ms ∧ ∀ t H', Up T H H' → TupF H' t ((namesOf ps).map V.str) → Q (.ref t) H'
def sp_place : Sp := fun vs H Q _ => ∃ v ps ms z i, vs = [v, .str z] ∧ PlanAt C H v ps ms ∧ Good ps ms ∧ (namesOf ps)[i]? = some z ∧ ∀ H', Up T H H' → Q (.int (i : Nat)) H'
def sp_further : Sp := fun vs H Q _ => ∃ v v2 ps ms ys ms2, vs = [v, v2] ∧ PlanAt C H v ps ms ∧ Seq H v2 ys ∧ AllV (MeeV H) ys ms2 ∧ Good ps (ms ++ ms2) ∧ ∀ x H', Up T H H' → PlanAt C H' x ps (ms ++ ms2) → Q x H'
end
section
variable {P : Program} {w : World} {K : PySem.W.Frag} {mg : Str → Option Value} {base : Heap} {T : Tb} {C f : Addr} {fd : FuncData}
theorem sc13 : FnScope ["self", "people", "meetings"] ["self", "people", "meetings"] (defScope s_init) := ⟨rfl, rfl, rfl, by decide +kernel, rfl, by decide +kernel, by decide +kernel⟩
theorem okD {k : Nat} {x qual : Str} {st : Stmt} {N ps : List Str} {sp : Sp} {dvs : List V} {kws : List (Str × V)} (F : FunD K x qual (defArgs st) (defBody st) (defScope st) dvs kws f fd) (S : FnScope N ps (defScope st)) (len : ∀ vs H Q E, sp vs H Q E → vs.length = ps.length)
    (hbody : ∀ (cdv : Value) (A : Around) (outer : List Env) (s : Shared) (H : Hp) (vs : List V) (Q : VK) (E : XK), Room k (A.deeper (PyProof.Rows.envOfC qual (defScope st) s.heap.objs.size f cdv)) → sp vs H Q E →
      ∃ t, PSs (cxOf CX0 P w K mg base N qual (defScope st) f cdv A outer s H E).nox (defBody st) t ∧ t { nx := fun _ H' => Q .non H', rt := Q } (start N vs) H) : FnOk P w K mg base CX0 (k + 1) f fd ps sp :=
  F.ok S len fun cdv A outer s H vs Q E hr hsp =>
    have ⟨t, h, q⟩ := hbody cdv A outer s H vs Q E hr hsp
    ⟨t, h.nox, q⟩
theorem ok_init {dvs : List V} (F : FunD K "__init__" "Plan.__init__" (defArgs s_init) (defBody s_init) (defScope s_init) dvs [] f fd) (X : Tx K mg C) (c1 : CalF P w K mg base "are_people" 5 ["value"] (sp_are_people T)) (c2 : CalF P w K mg base "are_meetings" 4 ["value", "names"] (sp_are_meetings T K)) (c3 : CalF P w K mg base "names_of" 1 ["people"] (sp_names_of T)) :
    FnOk P w K mg base CX0 6 f fd ["self", "people", "meetings"] (sp_init T C) := by
  refine okD F sc13 (fun vs H Q E h => ?_) (fun cdv A outer s H vs Q E hr h => ?_)
  · obtain ⟨_, _, _, _, _, _, _, _, _, rfl, _⟩ := h
    rfl
  · obtain ⟨H0, x, dx, v1, v2, xs, ys, ps, ms, rfl, u0, x0, hx, s1, a1, s2, a2, hg, q⟩ := h
    refine ⟨_, pss_cons (ps_if (pt_not (pt_val (pe_c c1 hr (by decide) rfl (pa_cons (pv 1) pa_nil)))) (pss_one ps_never) pss_nil)
      (pss_cons (ps_if (pt_not (pt_val (pe_c c2 hr (by decide) rfl (pa_cons (pv 2) (pa_cons (pe_c c3 hr (by decide) rfl (pa_cons (pv 1) pa_nil)) pa_nil))))) (pss_one ps_never) pss_nil)
      (pss_cons (ps_fld (pv 0) (pe_callTy call_tupleS (by rfl) X.n_tuple (by decide +kernel) (pa_cons (pv 1) pa_nil)) rfl)
      (pss_one (ps_fld (pv 0) (pe_callTy call_tupleS (by rfl) X.n_tuple (by decide +kernel) (pa_cons (pv 2) pa_nil)) rfl)))), ?_⟩
    have hx1 := hg.ppl.few
    have hx2 := a1.1
    have hx3 := hg.few
    have hx4 := a2.1
    refine ⟨_, rfl, v1, xs, ps, rfl, s1.up u0, a1.mono fun _ _ r => r.up u0, hg.ppl, fun H1 u1 => ⟨true, rfl, iteF ?_⟩⟩
    have u01 := u0.trans u1
    refine ⟨_, rfl, _, rfl, v1, xs, ps, rfl, s1.up u01, a1.mono fun _ _ r => r.up u01, by omega, fun t H2 u2 ht => ?_⟩
    have u02 := u01.trans u2
    refine ⟨v2, ys, ms, t, namesOf ps, rfl, s2.up u02, a2.mono fun _ _ r => r.up u02, by omega, by rw [names_map]; exact ht.st, hg.mee, fun H3 u3 => ⟨true, rfl, iteF ?_⟩⟩
    have u03 := u02.trans u3
    have ux : Up T H H3 := (u1.trans u2).trans u3
    have e3 := ux.i hx
    have hc := X.cl
    refine ⟨_, rfl, v1, xs, rfl, s1.up u03, fun tp H4 u4 ht4 => ?_⟩
    have u04 := u03.trans (u4 T)
    have e4 := (u4 T).i e3
    refine ⟨_, rfl, x, C, dx, [], rfl, e4, hc, X.nP, by show 0 < 1000; decide, ?_⟩
    have u05 := u04.mutI (u := .ins C dx (putF "people" (.ref tp) [])) x0 e4
    have tk5 : TK H4 (upd H4 x (.ins C dx (putF "people" (.ref tp) []))) := fun b zs e => by
      rw [upd_ne (fun z => by rw [z, e4] at e; cases e)]
      exact e
    refine ⟨_, rfl, v2, ys, rfl, s2.up u05, fun tm H6 u6 ht6 => ?_⟩
    have u06 := u05.trans (u6 T)
    have e6 := (u6 T).i (upd_same (H := H4) (a := x) (o := .ins C dx (putF "people" (.ref tp) [])))
    refine ⟨_, rfl, x, C, dx, _, rfl, e6, hc, X.nM, by show 1 < 1000; decide, ?_⟩
    have tk7 : TK H6 (upd H6 x (.ins C dx (putF "meetings" (.ref tm) (putF "people" (.ref tp) [])))) := fun b zs e => by
      rw [upd_ne (fun z => by rw [z, e6] at e; cases e)]
      exact e
    have tkA : TK H0 (upd H6 x (.ins C dx (putF "meetings" (.ref tm) (putF "people" (.ref tp) [])))) := u06.tk.trans tk7
    exact q _ (u06.mutI x0 e6) ⟨x, dx, tp, tm, xs, ys, rfl, upd_same, tk7 _ _ ((u6 T).t (tk5 _ _ ht4)), a1.mono fun _ _ r => r.tk tkA, tk7 _ _ ht6, a2.mono fun _ _ r => r.tk tkA⟩
theorem sc14 : FnScope ["self"] ["self"] (defScope s_names) := ⟨rfl, rfl, rfl, by decide +kernel, rfl, by decide +kernel, by decide +kernel⟩
theorem ok_names (F : Fun K "names" "Plan.names" s_names f fd) (X : Tx K mg C) (c3 : CalF P w K mg base "names_of" 1 ["people"] (sp_names_of T)) : FnOk P w K mg base CX0 2 f fd ["self"] (sp_names T C) := by
  refine F.ok sc14 (fun vs H Q E h => ?_) (fun cdv A outer s H vs Q E hr h => ?_)
  · obtain ⟨_, _, _, rfl, _⟩ := h
    rfl
  · obtain ⟨v, ps, ms, rfl, ⟨a, dx, tp, tm, xs, ys, rfl, ha, hp, ap, hm, am⟩, hg, q⟩ := h
    refine ⟨_, pss_one (ps_ret (pe_c c3 hr (by decide) rfl (pa_cons (pe_fld (pv 0) rfl) pa_nil))), ?_⟩
    have h1 := hg.ppl.few
    have h2 := ap.1
    exact ⟨_, rfl, a, C, dx, _, _, rfl, ha, X.cl, X.nP, pf_p _ _, _, xs, ps, rfl, ⟨tp, rfl, .inr hp⟩, ap, by omega, fun t H' u ht => q t H' u (by rw [names_map]; exact ht)⟩
theorem sc15 : FnScope ["self", "name"] ["self", "name"] (defScope s_place) := ⟨rfl, rfl, rfl, by decide +kernel, rfl, by decide +kernel, by decide +kernel⟩
theorem ok_place (F : Fun K "place" "Plan.place" s_place f fd) (X : Tx K mg C) (c1 : PrpF P w K mg base C "names" 2 ["self"] (sp_names T C)) : FnOk P w K mg base CX0 4 f fd ["self", "name"] (sp_place T C) := by
  refine F.ok sc15 (fun vs H Q E h => ?_) (fun cdv A outer s H vs Q E hr h => ?_)
  · obtain ⟨_, _, _, _, _, rfl, _⟩ := h
    rfl
  · obtain ⟨v, ps, ms, z, i, rfl, hp, hg, hi, q⟩ := h
    refine ⟨_, pss_cons (ps_if (pt_cmpR op_notIn_seq (pv 1) (pe_p (pv 0) X.cl c1 hr (by decide)) rfl) (pss_one ps_never) pss_nil)
      (pss_one (ps_ret (pe_bmF PySem.F.slot_tuple_index PySem.F.type_tuple_index mt_tup_index (pe_p (pv 0) X.cl c1 hr (by decide)) (pa_cons (pv 1) pa_nil)))), ?_⟩
    obtain ⟨a, dx, tp, tm, xs, ys, rfl, ha, _⟩ := id hp
    refine ⟨_, rfl, _, rfl, a, dx, _, rfl, ha, _, ps, ms, rfl, hp, hg, fun t H1 u1 ht => ?_⟩
    have hz : z ∈ namesOf ps := List.mem_of_getElem? hi
    refine ⟨t, _, rfl, .inr ht.st, rfl, all_flat _, false, ?_, iteF ?_⟩
    · rw [inV_str, decide_eq_true hz] <;> rfl
    refine ⟨_, rfl, a, dx, _, rfl, u1.i ha, _, ps, ms, rfl, hp.up u1, hg, fun t2 H2 u2 ht2 => ?_⟩
    refine ⟨⟨t2, _, rfl, ht2⟩, _, rfl, t2, namesOf ps, z, i, rfl, rfl, ht2.st, hi, fun m hm e => ?_, q H2 (u1.trans u2)⟩
    have := nd_ix hg.ppl.nd e hi
    omega
end
end FB

set_option Elab.async false
set_option maxRecDepth 100000
set_option maxHeartbeats 16000000
/-! worlds.py -/
namespace FB
open PySem L2

abbrev s_is_first_one : Stmt := topS 21
abbrev s_check_world : Stmt := topS 22
abbrev s_is_able : Stmt := topS 23
abbrev s_spread : Stmt := topS 24
abbrev s_lot_behind : Stmt := topS 25
abbrev s_since : Stmt := topS 26
abbrev s_able : Stmt := topS 27
abbrev s_shows : Stmt := topS 28

/-! ### the mirror -/
abbrev Wor := List (Str × Int)
def PairV (H : Hp) (v : V) (p : Str × Int) : Prop := ∃ t, v = .ref t ∧ H t = some (.tup [.str p.1, .int p.2])
theorem PairV.tk {H H' : Hp} {v : V} {p : Str × Int} (e : TK H H') (h : PairV H v p) : PairV H' v p := by
  obtain ⟨t, h1, h2⟩ := h
  exact ⟨t, h1, e _ _ h2⟩
def GoodPair (ps : List Per) (p : Str × Int) : Prop := ∃ (i : Nat) (q : Per) (f l : Int), ps[i]? = some q ∧ q.nm = p.1 ∧ q.sp = some (f, l) ∧ f ≤ p.2 ∧ p.2 ≤ l
structure GoodW (ps : List Per) (wd : Wor) : Prop where
  all : ∀ p ∈ wd, GoodPair ps p
  nd : (wd.map (·.1)).Nodup
  few : wd.length ≤ 1000
/-- the number of a person -/
def pl (ps : List Per) (z : Str) : Nat := (namesOf ps).idxOf z
theorem pl_at {ps : List Per} {z : Str} (h : z ∈ namesOf ps) : (namesOf ps)[pl ps z]? = some z := by
  unfold pl
  have hlt := List.idxOf_lt_length_of_mem h
  rw [List.getElem?_eq_getElem hlt, List.getElem_idxOf hlt]
theorem pl_lt {ps : List Per} {z : Str} (h : z ∈ namesOf ps) : pl ps z < ps.length := by
  have hlt := List.idxOf_lt_length_of_mem h
  have : (namesOf ps).length = ps.length := List.length_map ..
  unfold pl
  omega
theorem pl_eq {ps : List Per} (hn : (namesOf ps).Nodup) {i : Nat} {q : Per} (h : ps[i]? = some q) : pl ps q.nm = i := by
  have h2 : (namesOf ps)[i]? = some q.nm := by
    unfold namesOf
    rw [List.getElem?_map, h] <;> rfl
  exact nd_ix hn (pl_at (List.mem_of_getElem? h2)) h2
def optV : Option Int → V | none => .non | some d => .int d
def ableB (wt : Int) (o : Option Int) (d : Int) : Bool := match o with | none => false | some s => decide (s + wt ≤ d)
def soonB (o : Option Int) (d : Int) : Bool := match o with | none => true | some s => decide (d < s)
def SrcV (H : Hp) (v : V) : Option (Nat × Nat) → Prop
  | none => v = .non
  | some p => ∃ t, v = .ref t ∧ H t = some (.tup [.int (p.1 : Nat), .int (p.2 : Nat)])
theorem SrcV.tk {H H' : Hp} {v : V} {o : Option (Nat × Nat)} (e : TK H H') (h : SrcV H v o) : SrcV H' v o := by
  cases o with
  | none => exact h
  | some p =>
    obtain ⟨t, h1, h2⟩ := h
    exact ⟨t, h1, e _ _ h2⟩
abbrev Sprd := List (Option Int) × List (Option (Nat × Nat))
def wtAt (ps : List Per) (i : Nat) : Int := (ps[i]?).elim 0 (·.wt)
def stepG (ps : List Per) (at_ : Nat) (d : Int) (g t : Nat) (s : Sprd) : Sprd :=
  if soonB ((s.1[t]?).getD none) d && ableB (wtAt ps g) ((s.1[g]?).getD none) d then (s.1.set t (some d), s.2.set t (some (g, at_))) else s
def stepM (ps : List Per) (ms : List Mee) (s : Sprd) (at_ : Nat) : Sprd :=
  match ms[at_]? with
  | none => s
  | some m => stepG ps at_ m.dy (pl ps m.b) (pl ps m.a) (stepG ps at_ m.dy (pl ps m.a) (pl ps m.b) s)
def dayAt (ms : List Mee) (j : Nat) : Int := (ms[j]?).elim 0 (·.dy)
def order (ms : List Mee) : List Nat := (List.range ms.length).mergeSort fun x y => decide (dayAt ms x ≤ dayAt ms y)
def start0 (ps : List Per) (wd : Wor) : List (Option Int) := wd.foldl (fun st p => st.set (pl ps p.1) (some p.2)) (List.replicate ps.length none)
def spreadM (ps : List Per) (ms : List Mee) (wd : Wor) : Sprd := (order ms).foldl (stepM ps ms) (start0 ps wd, List.replicate ps.length none)
def sinceM (ps : List Per) (ms : List Mee) (wd : Wor) : List (Option Int) := (spreadM ps ms wd).1

section
variable (T : Tb) (C : Addr)
def sp_is_first_one : Sp := fun vs H Q _ => ∃ v v2 ps ms p, vs = [v, v2] ∧ PlanAt C H v ps ms ∧ Good ps ms ∧ PairV H v2 p ∧ GoodPair ps p ∧ ∀ H', Up T H H' → Q (.bl true) H'
def sp_check_world : Sp := fun vs H Q _ => ∃ v v2 ps ms xs wd, vs = [v, v2] ∧ PlanAt C H v ps ms ∧ Good ps ms ∧ Seq H v2 xs ∧ AllV (PairV H) xs wd ∧ GoodW ps wd ∧ ∀ H', Up T H H' → Q .non H'
def sp_is_able : Sp := fun vs H Q _ => ∃ v ps ms i o d, vs = [v, .int (i : Nat), optV o, .int d] ∧ PlanAt C H v ps ms ∧ i < ps.length ∧ ∀ H', Up T H H' → Q (.bl (ableB (wtAt ps i) o d)) H'
def sp_spread : Sp := fun vs H Q _ => ∃ v v2 ps ms xs wd, vs = [v, v2] ∧ LamX.Tabs T H ∧ PlanAt C H v ps ms ∧ Good ps ms ∧ Seq H v2 xs ∧ AllV (PairV H) xs wd ∧ GoodW ps wd ∧
  ∀ t l1 l2 ys H', Up T H H' → H' t = some (.tup [.ref l1, .ref l2]) → H' l1 = some (.lst ((sinceM ps ms wd).map optV)) → H' l2 = some (.lst ys) → AllV (SrcV H') ys (spreadM ps ms wd).2 → Q (.ref t) H'
def sp_since : Sp := fun vs H Q _ => ∃ v v2 ps ms xs wd, vs = [v, v2] ∧ LamX.Tabs T H ∧ PlanAt C H v ps ms ∧ Good ps ms ∧ Seq H v2 xs ∧ AllV (PairV H) xs wd ∧ GoodW ps wd ∧
  ∀ t H', Up T H H' → H' t = some (.tup ((sinceM ps ms wd).map optV)) → Q (.ref t) H'
end
section
variable {P : Program} {w : World} {K : PySem.W.Frag} {mg : Str → Option Value} {base : Heap} {T : Tb} {C f : Addr} {fd : FuncData}
theorem sc17 : FnScope ["plan", "value", "name", "day", "span"] ["plan", "value"] (defScope s_is_first_one) := ⟨rfl, rfl, rfl, by decide +kernel, rfl, by decide +kernel, by decide +kernel⟩
theorem ok_is_first_one (F : Fun K "is_first_one" "is_first_one" s_is_first_one f fd) (X : Tx K mg C) (c1 : CalF P w K mg base "is_tuple_of" 1 ["value", "many"] (sp_is_tuple_of T)) (c2 : CalF P w K mg base "is_number" 2 ["value"] (sp_is_number T))
    (c3 : PrpF P w K mg base C "names" 2 ["self"] (sp_names T C)) (c4 : MetF P w K mg base C "place" 4 ["self", "name"] (sp_place T C)) :
    FnOk P w K mg base CX0 5 f fd ["plan", "value"] (sp_is_first_one T C) := by
  refine F.ok sc17 (fun vs H Q E h => ?_) (fun cdv A outer s H vs Q E hr h => ?_)
  · obtain ⟨_, _, _, _, _, rfl, _⟩ := h
    rfl
  · obtain ⟨v, v2, ps, ms, p, rfl, hp, hg, ⟨t, rfl, ht⟩, ⟨i, q, fi, la, hi, hnm, hsp, h1, h2⟩, k⟩ := h
    refine ⟨_, pss_cons (ps_if (PW.pt (pw_or (pt_not (pt_val (pe_c c1 hr (by decide) rfl (pa_cons (pv 1) (pa_cons pe_int pa_nil))))) (pw_or1 (pt_cmpR op_notIn_seq (pe_ix ix_tup (pv 1) pe_int (fun _ _ => rfl)) (pe_p (pv 0) X.cl c3 hr (by decide)) rfl)))) (pss_one (ps_ret pe_bl)) pss_nil)
      (pss_cons (ps_asg (pv 1) (pg_tup (by rfl) (pgs_cons (pg_name (i := 2) sc17.nd rfl (.inl rfl)) (pgs_cons (pg_name (i := 3) sc17.nd rfl (.inl rfl)) pgs_nil))))
      (pss_cons (ps_set (i := 4) sc17.nd rfl (.inl rfl) (pe_ix ix_tup (pe_ix ix_tup (pe_fld (pv 0) rfl) (pe_m (pv 0) X.cl c4 hr (by decide) (pa_cons (pv 2) pa_nil)) (fun _ _ => rfl)) pe_int (fun _ _ => rfl)))
      (pss_one (ps_ret (pe_and (pe_cmpR op_notN (pv 4) pe_non (nomark _)) (pe_and (pe_c c2 hr (by decide) rfl (pa_cons (pv 3) pa_nil)) (pe_one (pe_chain op_le op_le (pe_ix ix_tup (pv 4) pe_int (fun _ _ => rfl)) (pv 3) (pe_ix ix_tup (pv 4) pe_int (fun _ _ => rfl)))))))))), ?_⟩
    have hin : (namesOf ps)[i]? = some p.1 := by
      unfold namesOf
      rw [List.getElem?_map, hi, ← hnm] <;> rfl
    have hmem : p.1 ∈ namesOf ps := List.mem_of_getElem? hin
    have hgp := hg.ppl.all q (List.mem_of_getElem? hi)
    have hgs : 0 ≤ fi ∧ fi ≤ la := by
      have z := hgp.sp
      rw [hsp] at z
      exact z
    refine ⟨_, rfl, _, 2, rfl, .inl ⟨t, _, rfl, ht, fun H1 u1 => ⟨true, rfl, iteF ?_⟩⟩⟩
    obtain ⟨a, dx, tp, tm, xs, ys, rfl, ha, hxp, ap, hym, am⟩ := id hp
    refine ⟨_, rfl, t, _, 0, .str p.1, rfl, rfl, .of (u1.t ht), rfl, _, rfl, a, dx, _, rfl, u1.i ha, _, ps, ms, rfl, hp.up u1, hg, fun t2 H2 u2 ht2 => ?_⟩
    refine ⟨t2, _, rfl, .inr ht2.st, rfl, all_flat _, false, ?_, iteF ?_⟩
    · rw [inV_str, decide_eq_true hmem] <;> rfl
    have u12 := u1.trans u2
    refine ⟨_, rfl, t, _, rfl, .of (u12.t ht), rfl, _, _, rfl, _, _, rfl, rfl, ?_⟩
    refine ⟨_, rfl, a, C, dx, _, _, rfl, u12.i ha, X.cl, X.nP, pf_p _ _, _, rfl, a, dx, _, rfl, u12.i ha, pf_no _ _ (by decide +kernel) (by decide +kernel), _, rfl, _, ps, ms, p.1, i, rfl, hp.up u12, hg, hin, fun H3 u3 => ?_⟩
    have u13 := u12.trans u3
    obtain ⟨xq, hxq, tq, sq, rfl, htq, hsq⟩ := ap.get' hi
    rw [hsp] at hsq
    obtain ⟨ts, rfl, hts⟩ := hsq
    refine ⟨tp, xs, (i : Nat), _, rfl, rfl, .of (u13.t hxp), atI_nat hxq, tq, _, 3, .ref ts, rfl, rfl, .of (u13.t htq), rfl, ?_⟩
    refine ⟨_, rfl, rfl, true, rfl, iteT ?_⟩
    refine ⟨_, rfl, _, .int, rfl, .int _, fun H4 u4 => ⟨true, ?_, iteT ?_⟩⟩
    · show V.bl (decide (0 ≤ p.2)) = V.bl true
      rw [decide_eq_true (by omega)]
    have u14 := u13.trans u4
    refine ⟨_, rfl, ts, _, 0, .int fi, rfl, rfl, .of (u14.t hts), rfl, _, rfl, fi, p.2, rfl, rfl, true, ?_, iteT ?_⟩
    · show V.bl (decide (fi ≤ p.2)) = V.bl true
      rw [decide_eq_true h1]
    refine ⟨_, rfl, ts, _, 1, .int la, rfl, rfl, .of (u14.t hts), rfl, p.2, la, rfl, rfl, ?_⟩
    show Q (.bl (decide (p.2 ≤ la))) H4
    rw [decide_eq_true h2]
    exact k H4 u14
theorem sc18 : FnScope ["plan", "world", "names", "at", "pair"] ["plan", "world"] (defScope s_check_world) := ⟨rfl, rfl, rfl, by decide +kernel, rfl, by decide +kernel, by decide +kernel⟩
theorem ok_check_world (F : Fun K "check_world" "check_world" s_check_world f fd) (X : Tx K mg C) (c1 : CalF P w K mg base "is_sequence" 1 ["value"] (sp_is_sequence T)) (c2 : CalF P w K mg base "is_first_one" 5 ["plan", "value"] (sp_is_first_one T C)) :
    FnOk P w K mg base CX0 6 f fd ["plan", "world"] (sp_check_world T C) := by
  refine F.ok sc18 (fun vs H Q E h => ?_) (fun cdv A outer s H vs Q E hr h => ?_)
  · obtain ⟨_, _, _, _, _, _, rfl, _⟩ := h
    rfl
  · obtain ⟨v, v2, ps, ms, xs, wd, rfl, hp, hg, hs, ha, hw, k⟩ := h
    refine ⟨_, pss_cons (ps_if (pt_not (pt_val (pe_c c1 hr (by decide) rfl (pa_cons (pv 1) pa_nil)))) (pss_one ps_never) pss_nil)
      (pss_cons (ps_set (i := 2) sc18.nd rfl (.inl rfl) (pe_lst pa_nil))
      (pss_one (ps_for PassesOwn.never rfl (pi_enumc (by rfl) X.n_enumerate (pa_cons (pv 1) pa_nil)) (pg_tup (by rfl) (pgs_cons (pg_name (i := 3) sc18.nd rfl (.inl rfl)) (pgs_cons (pg_name (i := 4) sc18.nd rfl (.inl rfl)) pgs_nil)))
        (pss_cons (ps_if (PW.pt (pw_or (pt_not (pt_val (pe_c c2 hr (by decide) rfl (pa_cons (pv 0) (pa_cons (pv 4) pa_nil))))) (pw_or1 (pt_cmpR op_in_seq (pe_ix ix_tup (pv 4) pe_int (fun _ _ => rfl)) (pv 2) rfl)))) (pss_one ps_never) pss_nil)
          (pss_one (ps_expr (pe_bm PySem.F.plainAttrs_list PySem.F.slot_list_append PySem.F.type_list_append mt_append (pv 2) (pa_cons (pe_ix ix_tup (pv 4) pe_int (fun _ _ => rfl)) pa_nil)))))))), ?_⟩
    obtain ⟨kd, ty, hk⟩ := hs.ty
    have hlw := hw.few
    have hla := ha.1
    refine ⟨_, rfl, _, kd, rfl, ty, fun H1 u1 => ⟨true, by rw [hk], iteF ?_⟩⟩
    refine ⟨Nat.zero_le _, fun l hl0 => ?_⟩
    have u2 : Up T H1 (upd H1 l (.lst [])) := Up.new hl0
    obtain ⟨c, rfl, hc⟩ := (hs.up u1).sq (K := K)
    refine ⟨_, rfl, c, xs, rfl, hc.up u2, for_it walk_enumc (fun i σ H' => ∃ o1 o2, σ = [some v, some (.ref c.2), some (.ref l), o1, o2] ∧ Up T H1 H' ∧ H' l = some (.lst (((wd.map (·.1)).take i).map V.str)))
      ⟨none, none, rfl, u2, upd_same⟩ (fun i σ H' _ ⟨_, _, _, u, _⟩ => hc.up u) (fun i x σ H' H2 hi p y => ?_) (fun σ H' p => ?_)⟩
    · obtain ⟨o1, o2, rfl, u, hL⟩ := p
      obtain ⟨tp, x1, x2, rfl, hT, rfl, e1, e2⟩ := y
      cases e1
      obtain ⟨p, hp', hv⟩ := ha.get e2
      have hpm : p ∈ wd := List.mem_of_getElem? hp'
      have u3 : Up T H' (upd H' tp (.tup [.int (i : Nat), x2])) := Up.new hT
      have uu := (u1.trans u).trans u3
      refine ⟨tp, _, rfl, .of upd_same, rfl, _, _, rfl, _, _, rfl, rfl, ?_⟩
      have hv' := hv.tk uu.tk
      refine ⟨_, rfl, _, rfl, _, _, ps, ms, p, rfl, hp.up uu, hg, hv', hw.all p hpm, fun H3 u4 => ⟨true, rfl, iteF ?_⟩⟩
      obtain ⟨t, rfl, ht⟩ := hv'.tk u4.tk
      have hL3 := (u3.trans u4).l hL
      have hni : inV (.str p.1) (((wd.map (·.1)).take i).map V.str) = false := by
        rw [inV_str]
        refine decide_eq_false fun hm => ?_
        obtain ⟨j, hj2⟩ := List.mem_iff_getElem?.mp hm
        have hj1 := (List.getElem?_eq_some_iff.mp hj2).1
        have hj : j < i := by
          rw [List.length_take] at hj1
          omega
        rw [List.getElem?_take_of_lt hj] at hj2
        have h3 : (wd.map (·.1))[i]? = some p.1 := by
          rw [List.getElem?_map, hp'] <;> rfl
        have := nd_ix hw.nd hj2 h3
        omega
      refine ⟨_, rfl, t, _, 0, .str p.1, rfl, rfl, .of ht, rfl, _, rfl, l, _, rfl, .inl (.of hL3), rfl, all_flat _, false, by rw [hni]; rfl, iteF ?_⟩
      have hsz : sizeLine = 16777216 := sizeLine_eq
      refine ⟨_, rfl, .inl ⟨rfl, _, SqL.of hL3⟩, _, rfl, t, _, 0, .str p.1, rfl, rfl, .of ht, rfl, l, _, _, rfl, rfl, hL3, ?_, ?_⟩
      · rw [List.length_map, List.length_take, List.length_map]
        omega
      · refine ⟨_, _, rfl, ((u.trans u3).trans u4).mutL hl0 hL3, ?_⟩
        rw [upd_same]
        have e : (wd.map (·.1)).take (i + 1) = (wd.map (·.1)).take i ++ [p.1] := by
          rw [List.take_add_one, List.getElem?_map, hp'] <;> rfl
        rw [e, List.map_append] <;> rfl
    · obtain ⟨o1, o2, rfl, u, hL⟩ := p
      exact k H' (u1.trans u)
theorem sc19 : FnScope ["plan", "place", "start", "day"] ["plan", "place", "start", "day"] (defScope s_is_able) := ⟨rfl, rfl, rfl, by decide +kernel, rfl, by decide +kernel, by decide +kernel⟩
theorem wt_at {H : Hp} {ps : List Per} {xs : List V} (ap : AllV (PerV H) xs ps) {i : Nat} (h : i < ps.length) : ∃ t s nm sh, xs[i]? = some (.ref t) ∧ H t = some (.tup [.str nm, .int (wtAt ps i), .int sh, s]) := by
  have e : ps[i]? = some ps[i] := List.getElem?_eq_getElem h
  obtain ⟨x, hx, t, s, rfl, ht, _⟩ := ap.get' e
  refine ⟨t, s, ps[i].nm, ps[i].sh, hx, ?_⟩
  have e2 : wtAt ps i = ps[i].wt := by
    unfold wtAt
    rw [e] <;> rfl
  rw [e2]
  exact ht
theorem ok_is_able (F : Fun K "is_able" "is_able" s_is_able f fd) (X : Tx K mg C) : FnOk P w K mg base CX0 1 f fd ["plan", "place", "start", "day"] (sp_is_able T C) := by
  refine F.ok sc19 (fun vs H Q E h => ?_) (fun cdv A outer s H vs Q E hr h => ?_)
  · obtain ⟨_, _, _, _, _, _, rfl, _⟩ := h
    rfl
  · obtain ⟨v, ps, ms, i, o, d, rfl, hp, hi, k⟩ := h
    refine ⟨_, pss_one (ps_ret (pe_and (pe_cmpR op_notN (pv 2) pe_non (nomark _)) (pe_one (pe_cmpR op_le (pe_op op_add (pv 2) (pe_ix ix_tup (pe_ix ix_tup (pe_fld (pv 0) rfl) (pv 1) (fun _ _ => rfl)) pe_int (fun _ _ => rfl))) (pv 3) (nomark _))))), ?_⟩
    obtain ⟨a, dx, tp, tm, xs, ys, rfl, ha, hxp, ap, hym, am⟩ := hp
    obtain ⟨t, s', nm, sh, hx, ht⟩ := wt_at ap hi
    cases o with
    | none => exact ⟨_, rfl, rfl, false, rfl, iteF (k H (Up.refl H))⟩
    | some z =>
      refine ⟨_, rfl, rfl, true, rfl, iteT ?_⟩
      exact ⟨_, rfl, _, rfl, a, C, dx, _, _, rfl, ha, X.cl, X.nP, pf_p _ _, _, rfl, tp, xs, (i : Nat), _, rfl, rfl, .of hxp, atI_nat hx, t, _, 1, _, rfl, rfl, .of ht, rfl, z, wtAt ps i, rfl, rfl, _, rfl, _, _, rfl, rfl, k H (Up.refl H)⟩
theorem rep_non (n : Nat) : (List.replicate n [V.non]).flatten = List.replicate n V.non := by
  induction n with
  | zero => rfl
  | succ n ih =>
    rw [List.replicate_succ, List.flatten_cons, ih, List.replicate_succ] <;> rfl
theorem ixN_n {n j : Nat} (hj : j < n) : ixN n (j : Int) = some j := by
  unfold ixN
  rw [if_pos (by omega), if_pos (by omega)]
  simp
theorem stepG_len {ps : List Per} {at_ : Nat} {d : Int} {g t : Nat} {s : Sprd} : (stepG ps at_ d g t s).1.length = s.1.length ∧ (stepG ps at_ d g t s).2.length = s.2.length := by
  unfold stepG
  split
  · simp
  · exact ⟨rfl, rfl⟩
theorem stepM_len {ps : List Per} {ms : List Mee} {s : Sprd} {at_ : Nat} : (stepM ps ms s at_).1.length = s.1.length ∧ (stepM ps ms s at_).2.length = s.2.length := by
  unfold stepM
  split
  · exact ⟨rfl, rfl⟩
  · rename_i m _
    have a := stepG_len (ps := ps) (at_ := at_) (d := m.dy) (g := pl ps m.a) (t := pl ps m.b) (s := s)
    have b := stepG_len (ps := ps) (at_ := at_) (d := m.dy) (g := pl ps m.b) (t := pl ps m.a) (s := stepG ps at_ m.dy (pl ps m.a) (pl ps m.b) s)
    exact ⟨b.1.trans a.1, b.2.trans a.2⟩
theorem okC {k : Nat} {x qual : Str} {st : Stmt} {N ps : List Str} {sp : Sp} {oc : Value} {od an : Option Addr} {osl : Array (Option Value)} {kV doc pm ct : Value} {c : Addr}
    (lk : K.lookup f = some ⟨oc, od, .func (PySem.W.fnOf x qual (defArgs st) (defBody st) (defScope st) .none kV doc pm an (.ref c) ct), osl⟩) (hcd : PySem.W.codeIn K (.ref c) qual = true) (S : FnScope N ps (defScope st)) (len : ∀ vs H Q E, sp vs H Q E → vs.length = ps.length)
    (hbody : ∀ (A : Around) (outer : List Env) (s : Shared) (H : Hp) (vs : List V) (Q : VK) (E : XK), Room k (A.deeper (PyProof.Rows.envOfC qual (defScope st) s.heap.objs.size f (.ref c))) → sp vs H Q E →
      ∃ t, PSs (cxOf CX0 P w K mg base N qual (defScope st) f (.ref c) A outer s H E).nox (defBody st) t ∧ t { nx := fun _ H' => Q .non H', rt := Q } (start N vs) H) :
    FnOk P w K mg base CX0 (k + 1) f (PySem.W.fnOf x qual (defArgs st) (defBody st) (defScope st) .none kV doc pm an (.ref c) ct) ps sp := by
  refine fn_of lk hcd S len fun A outer s H vs Q E hr hsp => ?_
  obtain ⟨t, h, q⟩ := hbody A outer s H vs Q E hr hsp
  exact ⟨t, h.nox, q⟩
theorem start_len {ps : List Per} : ∀ (wd : Wor) (st : List (Option Int)), (wd.foldl (fun st p => st.set (pl ps p.1) (some p.2)) st).length = st.length
  | [], _ => rfl
  | p :: r, st => by
    rw [List.foldl_cons, start_len r, List.length_set]
theorem order_mem {ms : List Mee} {k : Nat} (h : k ∈ order ms) : k < ms.length := by
  unfold order at h
  rw [List.mem_mergeSort] at h
  exact List.mem_range.mp h
theorem soon_rd {σ : L2.St} {H : Hp} {l1 : Addr} {zs : List V} {ot : Option Int} {d : Int} {t : Nat} {Q : VK} (h2 : σ[2]? = some (some (.ref l1))) (h12 : σ[12]? = some (some (.int (t : Nat)))) (h5 : σ[5]? = some (some (.int d))) (hl : H l1 = some (.lst zs)) (ho : zs[t]? = some (optV ot)) (q : Q (.bl (soonB ot d)) H) :
    tOrV (tOp (fun x y H Q => y = .non ∧ Q (.bl (decide (x = .non))) H) (tOp (rIxL K) (tVar 2) (tVar 12)) (tC .non)) (tOp (rI0 fun i j => .bl (decide (i < j))) (tVar 5) (tOp (rIxL K) (tVar 2) (tVar 12))) σ H Q := by
  cases ot with
  | none => exact ⟨_, h2, _, h12, l1, zs, (t : Nat), _, rfl, rfl, .of hl, atI_nat ho, rfl, true, rfl, iteT q⟩
  | some z => exact ⟨_, h2, _, h12, l1, zs, (t : Nat), _, rfl, rfl, .of hl, atI_nat ho, rfl, false, rfl, iteF ⟨_, h5, _, h2, _, h12, l1, zs, (t : Nat), _, rfl, rfl, .of hl, atI_nat ho, d, z, rfl, rfl, q⟩⟩
/-- the two lists of spread as they stand -/
def StSp (n : Nat) (H : Hp) (l1 l2 : Addr) (s : Sprd) : Prop := ∃ zs, H l1 = some (.lst (s.1.map optV)) ∧ H l2 = some (.lst zs) ∧ AllV (SrcV H) zs s.2 ∧ s.1.length = n ∧ s.2.length = n
theorem map_get {α β : Type} {f : α → β} {l : List α} {i : Nat} {y : β} (h : (l.map f)[i]? = some y) : ∃ x, l[i]? = some x ∧ y = f x := by
  rw [List.getElem?_map] at h
  cases e : l[i]? with
  | none => rw [e] at h; cases h
  | some x => rw [e] at h; exact ⟨x, rfl, (Option.some.inj h).symm⟩
theorem AllV.set {α : Type} {R : V → α → Prop} {xs : List V} {as : List α} (h : AllV R xs as) (i : Nat) {x : V} {a : α} (hr : R x a) : AllV R (xs.set i x) (as.set i a) := by
  refine ⟨by simp [h.1], fun j y b e1 e2 => ?_⟩
  rw [List.getElem?_set] at e1 e2
  by_cases hij : i = j
  · rw [if_pos hij] at e1 e2
    split at e1
    · split at e2
      · cases e1; cases e2; exact hr
      · cases e2
    · cases e1
  · rw [if_neg hij] at e1 e2
    exact h.2 j y b e1 e2
theorem StSp.up {n : Nat} {H H' : Hp} {l1 l2 : Addr} {s : Sprd} (h : StSp n H l1 l2 s) (e : Up T H H') : StSp n H' l1 l2 s := by
  obtain ⟨zs, h1, h2, h3, h4, h5⟩ := h
  exact ⟨zs, e.l h1, e.l h2, h3.mono fun _ _ r => r.tk e.tk, h4, h5⟩
theorem stepG_no {ps : List Per} {at_ : Nat} {d : Int} {g t : Nat} {s : Sprd} (h : (soonB ((s.1[t]?).getD none) d && ableB (wtAt ps g) ((s.1[g]?).getD none) d) = false) : stepG ps at_ d g t s = s := by
  unfold stepG
  rw [h, if_neg Bool.false_ne_true]
theorem stepG_yes {ps : List Per} {at_ : Nat} {d : Int} {g t : Nat} {s : Sprd} (h : (soonB ((s.1[t]?).getD none) d && ableB (wtAt ps g) ((s.1[g]?).getD none) d) = true) : stepG ps at_ d g t s = (s.1.set t (some d), s.2.set t (some (g, at_))) := by
  unfold stepG
  rw [h, if_pos rfl]
/-- what stands behind k of the two ways of a meeting -/
def stk (ps : List Per) (at_ : Nat) (d : Int) (i j : Nat) (k : Nat) (s : Sprd) : Sprd := ([(i, j), (j, i)].take k).foldl (fun s p => stepG ps at_ d p.1 p.2 s) s
def TbOf (p : Addr) : Tb := [(p, (("spread" : Str) ++ ".<locals>.") ++ "<lambda>")]
abbrev Nsp : List Str := ["plan", "world", "starts", "sources", "name", "day", "at", "a", "b", "first", "second", "giver", "taker", "is_sooner"]
theorem sc20 : FnScope Nsp ["plan", "world"] (defScope s_spread) := ⟨rfl, rfl, rfl, by decide +kernel, rfl, by decide +kernel, by decide +kernel⟩
theorem ok_spread {oc : Value} {od an : Option Addr} {osl : Array (Option Value)} {kV doc pm ct : Value} {c pt : Addr} (lk : K.lookup f = some ⟨oc, od, .func (PySem.W.fnOf "spread" "spread" (defArgs s_spread) (defBody s_spread) (defScope s_spread) .none kV doc pm an (.ref c) ct), osl⟩) (hcd : PySem.W.codeIn K (.ref c) "spread" = true)
    (X : Tx K mg C) (TB : LamX.TabB base mg c pt) (c1 : MetF P w K mg base C "place" 4 ["self", "name"] (sp_place (TbOf pt) C)) (c2 : CalF P w K mg base "is_able" 1 ["plan", "place", "start", "day"] (sp_is_able (TbOf pt) C)) :
    FnOk P w K mg base CX0 5 f (PySem.W.fnOf "spread" "spread" (defArgs s_spread) (defBody s_spread) (defScope s_spread) .none kV doc pm an (.ref c) ct) ["plan", "world"] (sp_spread (TbOf pt) C) := by
  refine okC lk hcd sc20 (fun vs H Q E h => ?_) (fun A outer s H vs Q E hr h => ?_)
  · obtain ⟨_, _, _, _, _, _, rfl, _⟩ := h
    rfl
  · obtain ⟨v, v2, ps, ms, ws, wd, rfl, tabs, hp, hg, hs, hws, hw, k⟩ := h
    refine' ⟨_, pss_cons ?s1 (pss_cons ?s2 (pss_cons ?s3 (pss_cons ?s4 (pss_one ?s5)))), ?r⟩
    case s1 =>
      exact ps_set (i := 2) sc20.nd rfl (.inl rfl) (pe_op op_rep (pe_lst (pa_cons pe_non pa_nil)) (pe_callB call_len (by rfl) X.n_len PySem.boot_len (pa_cons (pe_fld (pv 0) rfl) pa_nil)))
    case s2 =>
      exact ps_set (i := 3) sc20.nd rfl (.inl rfl) (pe_op op_rep (pe_lst (pa_cons pe_non pa_nil)) (pe_callB call_len (by rfl) X.n_len PySem.boot_len (pa_cons (pe_fld (pv 0) rfl) pa_nil)))
    case s3 =>
      exact ps_for PassesOwn.never rfl (pi_sq (pv 1)) (pg_tup (by rfl) (pgs_cons (pg_name (i := 4) sc20.nd rfl (.inl rfl)) (pgs_cons (pg_name (i := 5) sc20.nd rfl (.inl rfl)) pgs_nil)))
        (pss_one (ps_asg (pv 5) (pg_sub (pv 2) (pe_m (pv 0) X.cl c1 hr (by decide) (pa_cons (pv 4) pa_nil)) set_list)))
    case s5 =>
      exact ps_ret (pe_tup (pa_cons (pv 2) (pa_cons (pv 3) pa_nil)))
    case s4 =>
      refine' ps_for PassesOwn.never rfl (pi_list (?e1)) (pg_name (i := 6) sc20.nd rfl (.inl rfl)) (pss_cons ?b1 (pss_cons ?b2 (pss_one ?b3)))
      case e1 =>
        exact pe_sortLam (T := TbOf pt) (c := c) (P := pt) (i := 0) X.cl X.nM (pe_callB call_len (by rfl) X.n_len PySem.boot_len (pa_cons (pe_fld (pv 0) rfl) pa_nil)) (hr.mono (by decide)) rfl (by rfl) X.n_sorted (by rfl) X.n_range TB rfl (List.mem_singleton.mpr rfl)
          (fun p hp _ => by rw [List.mem_singleton.mp hp]; rfl) rfl rfl rfl rfl (by decide +kernel) rfl (by decide) (by decide) (by decide) rfl rfl (fun _ _ _ _ _ _ => rfl)
      case b1 =>
        exact ps_asg (pe_ix ix_tup (pe_fld (pv 0) rfl) (pv 6) (fun _ _ => rfl)) (pg_tup (by rfl) (pgs_cons (pg_name (i := 5) sc20.nd rfl (.inl rfl)) (pgs_cons (pg_name (i := 7) sc20.nd rfl (.inl rfl)) (pgs_cons (pg_name (i := 8) sc20.nd rfl (.inl rfl)) pgs_nil))))
      case b2 =>
        exact ps_par (i := 9) (j := 10) rfl sc20.nd rfl rfl (by decide) rfl rfl (pa_cons (pe_m (pv 0) X.cl c1 hr (by decide) (pa_cons (pv 7) pa_nil)) (pa_cons (pe_m (pv 0) X.cl c1 hr (by decide) (pa_cons (pv 8) pa_nil)) pa_nil)) (by rfl)
      case b3 =>
        refine' ps_for PassesOwn.never rfl (pi_sq (pe_tup (pa_cons (pe_tup (pa_cons (pv 9) (pa_cons (pv 10) pa_nil))) (pa_cons (pe_tup (pa_cons (pv 10) (pa_cons (pv 9) pa_nil))) pa_nil)))) (pg_tup (by rfl) (pgs_cons (pg_name (i := 11) sc20.nd rfl (.inl rfl)) (pgs_cons (pg_name (i := 12) sc20.nd rfl (.inl rfl)) pgs_nil)))
          (pss_cons ?d1 (pss_one ?d2))
        case d1 =>
          exact ps_set (i := 13) sc20.nd rfl (.inl rfl) (pe_or (pe_cmpR op_isN (pe_ix ix_list (pv 2) (pv 12) (fun _ _ => rfl)) pe_non (nomark _)) (pe_one (pe_cmpR op_lt (pv 5) (pe_ix ix_list (pv 2) (pv 12) (fun _ _ => rfl)) (nomark _))))
        case d2 =>
          exact ps_if (PW.pt (pw_and (pt_val (pv 13)) (pw_and1 (pt_val (pe_c c2 hr (by decide) rfl (pa_cons (pv 0) (pa_cons (pv 11) (pa_cons (pe_ix ix_list (pv 2) (pv 11) (fun _ _ => rfl)) (pa_cons (pv 5) pa_nil)))))))))
            (pss_cons (ps_asg (pv 5) (pg_sub (pv 2) (pv 12) set_list)) (pss_one (ps_asg (pe_tup (pa_cons (pv 11) (pa_cons (pv 6) pa_nil))) (pg_sub (pv 3) (pv 12) set_list)))) pss_nil
    case r =>
      obtain ⟨a, dx, tp, tm, xs, ys, rfl, ha, hxp, ap, hym, am⟩ := id hp
      have hxl := ap.1
      have hyl := am.1
      have few := hg.ppl.few
      have few2 := hg.few
      have hsz : sizeLine = 16777216 := sizeLine_eq
      have noPl : ∀ tp tm, (pf tp tm).lookup ("place" : Str) = none := fun _ _ => pf_no _ _ (by decide +kernel) (by decide +kernel)
      refine ⟨by show 1 ≤ sizeLine; decide, fun q0 hq0 => ?_⟩
      have u1 : Up (TbOf pt) H (upd H q0 (.lst [.non])) := Up.new hq0
      refine ⟨_, rfl, a, C, dx, _, _, rfl, u1.i ha, X.cl, X.nP, pf_p _ _, _, xs.length, rfl, .inr ⟨xs, .of (u1.t hxp), rfl⟩, q0, (xs.length : Nat), [.non], rfl, rfl, upd_same, by omega, by omega, by (simp; omega), fun l1 hl1 => ?_⟩
      have e1 : (List.replicate ((xs.length : Nat) : Int).toNat [V.non]).flatten = (List.replicate ps.length none).map optV := by
        rw [Int.toNat_natCast, rep_non, List.map_replicate, hxl] <;> rfl
      rw [e1]
      have u2 := u1.trans (Up.new (o := .lst ((List.replicate ps.length none).map optV)) hl1)
      refine ⟨by show 1 ≤ sizeLine; decide, fun q1 hq1 => ?_⟩
      have u3 := u2.trans (Up.new (o := .lst [.non]) hq1)
      refine ⟨_, rfl, a, C, dx, _, _, rfl, u3.i ha, X.cl, X.nP, pf_p _ _, _, xs.length, rfl, .inr ⟨xs, .of (u3.t hxp), rfl⟩, q1, (xs.length : Nat), [.non], rfl, rfl, upd_same, by omega, by omega, by (simp; omega), fun l2 hl2 => ?_⟩
      have e2 : (List.replicate ((xs.length : Nat) : Int).toNat [V.non]).flatten = List.replicate ps.length V.non := by
        rw [Int.toNat_natCast, rep_non, hxl]
      rw [e2]
      have u4 := u3.trans (Up.new (o := .lst (List.replicate ps.length V.non)) hl2)
      have n1 : H l1 = none := NdefX.upd_none hl1
      have n2 : H l2 = none := NdefX.upd_none (NdefX.upd_none (NdefX.upd_none hl2))
      have h41 : (upd (upd (upd (upd H q0 (.lst [.non])) l1 (.lst ((List.replicate ps.length none).map optV))) q1 (.lst [.non])) l2 (.lst (List.replicate ps.length V.non))) l1 = some (.lst ((List.replicate ps.length none).map optV)) :=
        (Up.new (T := TbOf pt) hl2).l ((Up.new (T := TbOf pt) hq1).l upd_same)
      have h42 : (upd (upd (upd (upd H q0 (.lst [.non])) l1 (.lst ((List.replicate ps.length none).map optV))) q1 (.lst [.non])) l2 (.lst (List.replicate ps.length V.non))) l2 = some (.lst (List.replicate ps.length V.non)) := upd_same
      have n12 : l1 ≠ l2 := ne_of_none ((Up.new (T := TbOf pt) hq1).l upd_same) hl2
      generalize (upd (upd (upd (upd H q0 (.lst [.non])) l1 (.lst ((List.replicate ps.length none).map optV))) q1 (.lst [.non])) l2 (.lst (List.replicate ps.length V.non))) = H4 at u4 h41 h42 ⊢
      obtain ⟨c', rfl, hc⟩ := hs.sq (K := K)
      refine ⟨_, rfl, c', ws, rfl, hc.up u4, for_it walk_sq (fun i σ H' => ∃ o4 o5, σ = [some (.ref a), some (.ref c'.2), some (.ref l1), some (.ref l2), o4, o5, none, none, none, none, none, none, none, none] ∧ Up (TbOf pt) H H' ∧
          H' l1 = some (.lst (((wd.take i).foldl (fun st p => st.set (pl ps p.1) (some p.2)) (List.replicate ps.length none)).map optV)) ∧ H' l2 = some (.lst (List.replicate ps.length V.non)))
        ⟨none, none, rfl, u4, h41, h42⟩ (fun i σ H' _ ⟨_, _, _, u, _⟩ => hc.up u) (fun i x σ H' H2 hi p y => ?_) (fun σ H' p => ?_)⟩
      · obtain ⟨o4, o5, rfl, u, hL1, hL2⟩ := p
        obtain ⟨rfl, hx⟩ := y
        obtain ⟨p, hpw, t, rfl, ht⟩ := hws.get hx
        obtain ⟨ii, q, fi, la, hii, hnm, _⟩ := hw.all p (List.mem_of_getElem? hpw)
        have hmem : p.1 ∈ namesOf ps := by
          rw [← hnm]
          exact List.mem_map.mpr ⟨q, List.mem_of_getElem? hii, rfl⟩
        refine ⟨t, _, rfl, .of (u.t ht), rfl, _, _, rfl, _, _, rfl, rfl, ?_⟩
        refine ⟨_, rfl, _, rfl, _, rfl, a, dx, _, rfl, u.i ha, noPl _ _, _, rfl, _, ps, ms, p.1, pl ps p.1, rfl, hp.up u, hg, pl_at hmem, fun H3 u3 => ⟨l1, _, _, pl ps p.1, rfl, rfl, u3.l hL1, ixN_n ?_, ?_⟩⟩
        · rw [List.length_map, start_len, List.length_replicate]
          exact pl_lt hmem
        · refine ⟨_, _, rfl, (u.trans u3).mutL n1 (u3.l hL1), ?_, ?_⟩
          · rw [upd_same, List.take_add_one, hpw, List.foldl_append]
            show some (HO.lst (List.set _ _ (optV (some p.2)))) = _
            rw [← List.map_set] <;> rfl
          · rw [upd_ne n12.symm]
            exact u3.l hL2
      · obtain ⟨o4, o5, rfl, u, hL1, hL2⟩ := p
        have ewd : wd.take ws.length = wd := List.take_of_length_le (by rw [hws.1]; exact Nat.le_refl _)
        rw [ewd] at hL1
        refine ⟨_, rfl, a, C, dx, _, _, rfl, u.i ha, X.cl, X.nM, pf_m _ _, _, ys.length, rfl, .inr ⟨ys, .of (u.t hym), rfl⟩, ys.length, a, dx, tm, _, ys, dayAt ms, rfl, by omega, u.2 tabs, rfl, u.i ha, pf_m _ _, u.t hym, fun j hj => ?_, fun H6 p u6 hp6 => ?_⟩
        · have hj2 : j < ms.length := by omega
          obtain ⟨x, hx, t, rfl, ht⟩ := am.get' (List.getElem?_eq_getElem hj2)
          refine ⟨t, [.str ms[j].a, .str ms[j].b], hx, ?_⟩
          have ed : dayAt ms j = ms[j].dy := by
            unfold dayAt
            rw [List.getElem?_eq_getElem hj2] <;> rfl
          rw [ed]
          exact u.t ht
        have e3 : ((List.range ys.length).mergeSort fun x y => decide (dayAt ms x ≤ dayAt ms y)) = order ms := by
          unfold order
          rw [hyl]
        rw [e3]
        have u7 : Up (TbOf pt) H6 (upd H6 p (.lst ((order ms).map fun (k : Nat) => V.int k))) := Up.new hp6
        have np1 : p ≠ l1 := (ne_of_none (u6.l hL1) hp6).symm
        have np2 : p ≠ l2 := (ne_of_none (u6.l hL2) hp6).symm
        have uu := (u.trans u6).trans u7
        refine ⟨p, rfl, ⟨_, .of upd_same⟩, for_list (xs := (order ms).map fun (k : Nat) => V.int k) (fun i σ H' => ∃ o4 o5 o6 o7 o8 o9 o10 o11 o12 o13, σ = [some (.ref a), some (.ref c'.2), some (.ref l1), some (.ref l2), o4, o5, o6, o7, o8, o9, o10, o11, o12, o13] ∧ Up (TbOf pt) H H' ∧
            H' p = some (.lst ((order ms).map fun (k : Nat) => V.int k)) ∧ StSp ps.length H' l1 l2 (((order ms).take i).foldl (stepM ps ms) (start0 ps wd, List.replicate ps.length none)))
          ⟨_, _, _, _, _, _, _, _, _, _, rfl, uu, upd_same, List.replicate ps.length V.non, ?_, ?_, ?_, ?_, ?_⟩ (fun i σ H' _ ⟨_, _, _, _, _, _, _, _, _, _, _, _, e, _⟩ => .of e) (fun i x σ H' hx p' => ?_) (fun σ H' p' => ?_)⟩
        · rw [upd_ne np1.symm]
          exact u6.l hL1
        · rw [upd_ne np2.symm]
          exact u6.l hL2
        · refine ⟨by simp, fun j v o e1 e2 => ?_⟩
          have h1 := List.mem_of_getElem? e1
          have h2 := List.mem_of_getElem? e2
          rw [List.mem_replicate] at h1
          have h3 : o = none := (List.mem_replicate.mp h2).2
          rw [h1.2, h3] <;> rfl
        · show (start0 ps wd).length = _
          unfold start0
          rw [start_len, List.length_replicate]
        · show (List.replicate ps.length (none : Option (Nat × Nat))).length = _
          rw [List.length_replicate]
        · obtain ⟨o4, o5, o6, o7, o8, o9, o10, o11, o12, o13, rfl, u, hP, hS⟩ := p'
          obtain ⟨kk, hkk, rfl⟩ := map_get hx
          have hk1 := order_mem (List.mem_of_getElem? hkk)
          obtain ⟨xm, hxm, tmk, rfl, htmk⟩ := am.get' (List.getElem?_eq_getElem hk1)
          have hgm := hg.mee ms[kk] (List.getElem_mem hk1)
          generalize hm : ms[kk] = m at htmk hgm
          have hmk : ms[kk]? = some m := by
            rw [← hm]
            exact List.getElem?_eq_getElem hk1
          refine ⟨_, rfl, a, C, dx, _, _, rfl, u.i ha, X.cl, X.nM, pf_m _ _, _, rfl, tm, ys, (kk : Nat), _, rfl, rfl, .of (u.t hym), atI_nat hxm, tmk, _, rfl, .of (u.t htmk), rfl, _, _, rfl, _, _, rfl, _, _, rfl, rfl, ?_⟩
          refine ⟨_, rfl, a, dx, _, rfl, u.i ha, noPl _ _, _, rfl, _, ps, ms, m.a, pl ps m.a, rfl, hp.up u, hg, pl_at hgm.a, fun H7 u7 => ?_⟩
          have u8 := u.trans u7
          refine ⟨_, rfl, a, dx, _, rfl, u8.i ha, noPl _ _, _, rfl, _, ps, ms, m.b, pl ps m.b, rfl, hp.up u8, hg, pl_at hgm.b, fun H8 u9 => ⟨_, _, rfl, ?_⟩⟩
          have u10 := u8.trans u9
          have hS8 := hS.up (u7.trans u9)
          have hP8 := (u7.trans u9).l hP
          have la : pl ps m.a < ps.length := pl_lt hgm.a
          have lb : pl ps m.b < ps.length := pl_lt hgm.b
          generalize hsst : ((order ms).take i).foldl (stepM ps ms) (start0 ps wd, List.replicate ps.length none) = s0 at hS8
          refine ⟨_, rfl, _, rfl, by show 2 ≤ sizeLine; decide, fun t1 ht1 => ⟨_, rfl, _, rfl, by show 2 ≤ sizeLine; decide, fun t2 ht2 => ⟨by show 2 ≤ sizeLine; decide, fun t3 ht3 => ?_⟩⟩⟩
          have v1 : Up (TbOf pt) H8 (upd H8 t1 (.tup [.int (pl ps m.a : Nat), .int (pl ps m.b : Nat)])) := Up.new ht1
          have v2 := v1.trans (Up.new (o := .tup [.int (pl ps m.b : Nat), .int (pl ps m.a : Nat)]) ht2)
          have v3 := v2.trans (Up.new (o := .tup [.ref t1, .ref t2]) ht3)
          have e1 : (upd (upd (upd H8 t1 (.tup [.int (pl ps m.a : Nat), .int (pl ps m.b : Nat)])) t2 (.tup [.int (pl ps m.b : Nat), .int (pl ps m.a : Nat)])) t3 (.tup [.ref t1, .ref t2])) t1 = some (.tup [.int (pl ps m.a : Nat), .int (pl ps m.b : Nat)]) := (Up.new (T := TbOf pt) ht3).t ((Up.new (T := TbOf pt) ht2).t upd_same)
          have e2 : (upd (upd (upd H8 t1 (.tup [.int (pl ps m.a : Nat), .int (pl ps m.b : Nat)])) t2 (.tup [.int (pl ps m.b : Nat), .int (pl ps m.a : Nat)])) t3 (.tup [.ref t1, .ref t2])) t2 = some (.tup [.int (pl ps m.b : Nat), .int (pl ps m.a : Nat)]) := (Up.new (T := TbOf pt) ht3).t upd_same
          have e3 : (upd (upd (upd H8 t1 (.tup [.int (pl ps m.a : Nat), .int (pl ps m.b : Nat)])) t2 (.tup [.int (pl ps m.b : Nat), .int (pl ps m.a : Nat)])) t3 (.tup [.ref t1, .ref t2])) t3 = some (.tup [.ref t1, .ref t2]) := upd_same
          generalize (upd (upd (upd H8 t1 (.tup [.int (pl ps m.a : Nat), .int (pl ps m.b : Nat)])) t2 (.tup [.int (pl ps m.b : Nat), .int (pl ps m.a : Nat)])) t3 (.tup [.ref t1, .ref t2])) = H9 at v3 e1 e2 e3 ⊢
          have u11 := u10.trans v3
          refine ⟨(false, t3), [.ref t1, .ref t2], rfl, (show SqT K H9 t3 _ from .of e3), for_it walk_sq (fun q σ H' => ∃ o11 o12 o13, σ = [some (.ref a), some (.ref c'.2), some (.ref l1), some (.ref l2), o4, some (.int m.dy), some (.int (kk : Nat)), some (.str m.a), some (.str m.b), some (.int (pl ps m.a : Nat)), some (.int (pl ps m.b : Nat)), o11, o12, o13] ∧
              Up (TbOf pt) H H' ∧ H' p = some (.lst ((order ms).map fun (k : Nat) => V.int k)) ∧ H' t1 = some (.tup [.int (pl ps m.a : Nat), .int (pl ps m.b : Nat)]) ∧ H' t2 = some (.tup [.int (pl ps m.b : Nat), .int (pl ps m.a : Nat)]) ∧ H' t3 = some (.tup [.ref t1, .ref t2]) ∧
              StSp ps.length H' l1 l2 (stk ps kk m.dy (pl ps m.a) (pl ps m.b) q s0))
            ⟨o11, o12, o13, rfl, u11, v3.l hP8, e1, e2, e3, hS8.up v3⟩ (fun q σ H' _ ⟨_, _, _, _, _, _, _, _, e, _⟩ => (show SqT K H' t3 _ from .of e)) (fun q x σ H' H2 hq r y => ?_) (fun σ H' r => ?_)⟩
          · obtain ⟨o11, o12, o13, rfl, u, hP', f1, f2, f3, hS'⟩ := r
            obtain ⟨rfl, hx2⟩ := y
            obtain ⟨tk, g, t, rfl, htk, hgl, htl, hst⟩ : ∃ tk g t, x = V.ref tk ∧ H2 tk = some (.tup [.int (g : Nat), .int (t : Nat)]) ∧ g < ps.length ∧ t < ps.length ∧ stk ps kk m.dy (pl ps m.a) (pl ps m.b) (q + 1) s0 = stepG ps kk m.dy g t (stk ps kk m.dy (pl ps m.a) (pl ps m.b) q s0) := by
              match q, hx2 with
              | 0, hx2 =>
                cases hx2
                exact ⟨t1, _, _, rfl, f1, la, lb, rfl⟩
              | 1, hx2 =>
                cases hx2
                exact ⟨t2, _, _, rfl, f2, lb, la, rfl⟩
              | n + 2, hx2 => simp at hx2
            generalize stk ps kk m.dy (pl ps m.a) (pl ps m.b) q s0 = sq at hS' hst
            rw [hst]
            obtain ⟨zs, hL1, hL2, hsrc, hl1, hl2⟩ := id hS'
            have gt' : sq.1[t]? = some ((sq.1[t]?).getD none) := by
              rw [List.getElem?_eq_getElem (by omega)] <;> rfl
            have gg' : sq.1[g]? = some ((sq.1[g]?).getD none) := by
              rw [List.getElem?_eq_getElem (by omega)] <;> rfl
            have mt : (sq.1.map optV)[t]? = some (optV ((sq.1[t]?).getD none)) := by
              rw [List.getElem?_map, gt'] <;> rfl
            have mg' : (sq.1.map optV)[g]? = some (optV ((sq.1[g]?).getD none)) := by
              rw [List.getElem?_map, gg'] <;> rfl
            refine ⟨tk, _, rfl, .of htk, rfl, _, _, rfl, _, _, rfl, rfl, ?_⟩
            refine soon_rd (K := K) (ot := (sq.1[t]?).getD none) (d := m.dy) (t := t) rfl rfl rfl hL1 mt ?_
            refine ⟨_, rfl, _, rfl, ?_⟩
            cases hso : soonB ((sq.1[t]?).getD none) m.dy with
            | false =>
              refine iteF (iteF ?_)
              rw [stepG_no (by rw [hso]; rfl)]
              exact ⟨_, _, _, rfl, u, hP', f1, f2, f3, hS'⟩
            | true =>
              refine iteT ⟨_, rfl, _, rfl, _, rfl, _, rfl, l1, _, (g : Nat), _, rfl, rfl, .of hL1, atI_nat mg', _, rfl, _, ps, ms, g, (sq.1[g]?).getD none, m.dy, rfl, hp.up u, hgl, fun H10 u12 => ⟨_, rfl, ?_⟩⟩
              cases hab : ableB (wtAt ps g) ((sq.1[g]?).getD none) m.dy with
              | false =>
                refine iteF ?_
                rw [stepG_no (by rw [hso, hab]; rfl)]
                exact ⟨_, _, _, rfl, u.trans u12, u12.l hP', u12.t f1, u12.t f2, u12.t f3, hS'.up u12⟩
              | true =>
                refine iteT ⟨_, rfl, _, rfl, _, rfl, l1, _, (t : Nat), t, rfl, rfl, u12.l hL1, ixN_n (by rw [List.length_map]; omega), ?_⟩
                have w1 : Up (TbOf pt) H (upd H10 l1 (.lst ((sq.1.map optV).set t (.int m.dy)))) := (u.trans u12).mutL n1 (u12.l hL1)
                have tk1 : TK H10 (upd H10 l1 (.lst ((sq.1.map optV).set t (.int m.dy)))) := TK.mut (u12.l hL1)
                have hL2' : (upd H10 l1 (.lst ((sq.1.map optV).set t (.int m.dy)))) l2 = some (.lst zs) := by
                  rw [upd_ne n12.symm]
                  exact u12.l hL2
                refine ⟨_, rfl, _, rfl, by show 2 ≤ sizeLine; decide, fun ts hts => ?_⟩
                have w2 : Up (TbOf pt) (upd H10 l1 (.lst ((sq.1.map optV).set t (.int m.dy)))) _ := Up.new (o := .tup [.int (g : Nat), .int (kk : Nat)]) hts
                refine ⟨_, rfl, _, rfl, l2, _, (t : Nat), t, rfl, rfl, w2.l hL2', ixN_n (by have := hsrc.1; omega), ?_⟩
                rw [stepG_yes (by rw [hso, hab]; rfl)]
                have tk3 := TK.mut (ys := zs.set t (.ref ts)) (w2.l hL2')
                have tkA := (u12.tk.trans tk1).trans (w2.tk.trans tk3)
                refine ⟨_, _, _, rfl, (w1.trans w2).mutL n2 (w2.l hL2'), ?_, tkA _ _ f1, tkA _ _ f2, tkA _ _ f3, zs.set t (.ref ts), ?_, upd_same, ?_, ?_, ?_⟩
                · rw [upd_ne np2]
                  refine w2.l ?_
                  rw [upd_ne np1]
                  exact u12.l hP'
                · rw [upd_ne n12]
                  refine w2.l ?_
                  rw [upd_same, List.map_set] <;> rfl
                · exact (hsrc.mono fun _ _ r => r.tk tkA).set t ⟨ts, rfl, tk3 _ _ upd_same⟩
                · show (sq.1.set t _).length = _
                  rw [List.length_set]
                  exact hl1
                · show (sq.2.set t _).length = _
                  rw [List.length_set]
                  exact hl2
          · obtain ⟨o11, o12, o13, rfl, u, hP', f1, f2, f3, hS'⟩ := r
            have en : ((order ms).take (i + 1)).foldl (stepM ps ms) (start0 ps wd, List.replicate ps.length none) = stk ps kk m.dy (pl ps m.a) (pl ps m.b) [V.ref t1, V.ref t2].length s0 := by
              rw [List.take_add_one, hkk, List.foldl_append, hsst]
              show stepM ps ms s0 kk = _
              unfold stepM
              rw [hmk] <;> rfl
            refine ⟨_, _, _, _, _, _, _, _, _, _, rfl, u, hP', ?_⟩
            rw [en]
            exact hS'
        · obtain ⟨o4, o5, o6, o7, o8, o9, o10, o11, o12, o13, rfl, u, hP, zs, hL1, hL2, hsrc, _, _⟩ := p'
          have el : ((order ms).map fun (k : Nat) => V.int k).length = (order ms).length := List.length_map ..
          rw [el, List.take_length] at hL1 hsrc
          refine ⟨_, rfl, _, rfl, by show 2 ≤ sizeLine; decide, fun t ht => ?_⟩
          have ut : Up (TbOf pt) H' (upd H' t (.tup [.ref l1, .ref l2])) := Up.new ht
          exact k t l1 l2 zs _ (u.trans ut) upd_same (ut.l hL1) (ut.l hL2) (hsrc.mono fun _ _ r => r.tk ut.tk)
end
end FB

set_option Elab.async false
set_option maxRecDepth 100000
set_option maxHeartbeats 16000000
/-! since, able, shows; sorted texts are one -/
namespace FB
open PySem L2

/-! ### sorted texts -/
def leS (a b : Str) : Prop := ¬ b.cps.toList < a.cps.toList
theorem leS_of {a b : Str} (h : PySem.Spec.ltCps b.cps.toList a.cps.toList = false) : leS a b := by
  rw [PyProof.Rows.ltCps_eq] at h
  exact of_decide_eq_false h
theorem leS_trans {a b c : Str} (h1 : leS a b) (h2 : leS b c) : leS a c := by
  unfold leS at *
  rw [List.not_lt] at *
  exact List.le_trans h1 h2
theorem leS_anti {a b : Str} (h1 : leS a b) (h2 : leS b a) : a = b := by
  unfold leS at *
  rw [List.not_lt] at *
  have e := List.le_antisymm h1 h2
  cases a
  cases b
  congr 1
  exact Array.toList_inj.mp e
theorem rising_pw : ∀ {l : List Str} {p : Str}, PyProof.Rows.risingS p l = true → (∀ x ∈ l, leS p x) ∧ l.Pairwise leS
  | [], _, _ => ⟨fun _ h => (List.not_mem_nil h).elim, .nil⟩
  | x :: r, p, h => by
    have h : (!PySem.Spec.ltCps x.cps.toList p.cps.toList && PyProof.Rows.risingS x r) = true := h
    rw [Bool.and_eq_true, Bool.not_eq_true'] at h
    obtain ⟨a, b⟩ := rising_pw h.2
    have c := leS_of h.1
    refine ⟨fun y hy => ?_, List.pairwise_cons.mpr ⟨a, b⟩⟩
    rcases List.mem_cons.mp hy with rfl | hy
    · exact c
    · exact leS_trans c (a y hy)
theorem sorted_pw {l : List Str} (h : PyProof.Rows.sortedS l = true) : l.Pairwise leS := by
  cases l with
  | nil => exact .nil
  | cons x r =>
    have z := rising_pw (l := r) (p := x) h
    exact List.pairwise_cons.mpr z
theorem sorted_one {xs ys : List Str} (hp : xs.Perm ys) (h1 : PyProof.Rows.sortedS xs = true) (h2 : PyProof.Rows.sortedS ys = true) : xs = ys :=
  List.Perm.eq_of_pairwise (le := leS) (fun _ _ _ _ a b => leS_anti a b) (sorted_pw h1) (sorted_pw h2) hp

def delB (ds : List Int) (sts : List (Option Int)) (d : Int) (i : Nat) : Bool := ableB ((ds[i]?).getD 0) ((sts[i]?).getD none) d
/-- those of the names who bear it for their delay, in the order of people -/
def lotM (ns : List Str) (sts : List (Option Int)) (ds : List Int) (d : Int) : List Str := ((List.range ns.length).filter (delB ds sts d)).map fun i => (ns[i]?).getD (Str.ofString "")
theorem sqt_mut {K : PySem.W.Frag} {H : Hp} {a l : Addr} {xs ys : List V} {o : HO} (h : SqT K H a xs) (hl : H l = some (.lst ys)) : SqT K (upd H l o) a xs := by
  rcases h with (h | ⟨ob, h⟩) | h
  · exact .inl (.inl (by rw [upd_ne (fun z => by rw [z, hl] at h; cases h)]; exact h))
  · exact .inl (.inr ⟨ob, by rw [upd_ne (fun z => by rw [z, hl] at h; cases h)]; exact h⟩)
  · exact .inr h
theorem since_len {ps : List Per} {ms : List Mee} {wd : Wor} : (sinceM ps ms wd).length = ps.length := by
  unfold sinceM spreadM
  have key : ∀ (l : List Nat) (s : Sprd), ((l.foldl (stepM ps ms) s).1).length = s.1.length := by
    intro l
    induction l with
    | nil => intro s; rfl
    | cons a l ih =>
      intro s
      rw [List.foldl_cons, ih]
      exact stepM_len.1
  rw [key]
  show (start0 ps wd).length = _
  unfold start0
  rw [start_len, List.length_replicate]
section
variable (T : Tb) (C : Addr)
def sp_lot_behind : Sp := fun vs H Q _ => ∃ v v2 ps ms xs wd ld ds d, vs = [v, v2, .ref ld, .int d] ∧ LamX.Tabs T H ∧ PlanAt C H v ps ms ∧ Good ps ms ∧ ps.length < 64 ∧ Seq H v2 xs ∧ AllV (PairV H) xs wd ∧ GoodW ps wd ∧ H ld = some (.lst (ds.map V.int)) ∧ ds.length = ps.length ∧
  ∀ t ys H', Up T H H' → ys.Perm (lotM (namesOf ps) (sinceM ps ms wd) ds d) → PyProof.Rows.sortedS ys = true → H' t = some (.tup (ys.map V.str)) → Q (.ref t) H'
def sp_lot (g : Per → Int) : Sp := fun vs H Q _ => ∃ v v2 ps ms xs wd d, vs = [v, v2, .int d] ∧ LamX.Tabs T H ∧ PlanAt C H v ps ms ∧ Good ps ms ∧ ps.length < 64 ∧ Seq H v2 xs ∧ AllV (PairV H) xs wd ∧ GoodW ps wd ∧
  ∀ t ys H', Up T H H' → ys.Perm (lotM (namesOf ps) (sinceM ps ms wd) (ps.map g) d) → PyProof.Rows.sortedS ys = true → H' t = some (.tup (ys.map V.str)) → Q (.ref t) H'
end
section
variable {P : Program} {w : World} {K : PySem.W.Frag} {mg : Str → Option Value} {base : Heap} {T : Tb} {C f : Addr} {fd : FuncData}
theorem sc21 : FnScope ["plan", "world"] ["plan", "world"] (defScope s_since) := ⟨rfl, rfl, rfl, by decide +kernel, rfl, by decide +kernel, by decide +kernel⟩
theorem ok_since (F : Fun K "since" "since" s_since f fd) (X : Tx K mg C) (c1 : CalF P w K mg base "check_world" 6 ["plan", "world"] (sp_check_world T C)) (c2 : CalF P w K mg base "spread" 5 ["plan", "world"] (sp_spread T C)) :
    FnOk P w K mg base CX0 7 f fd ["plan", "world"] (sp_since T C) := by
  refine F.ok sc21 (fun vs H Q E h => ?_) (fun cdv A outer s H vs Q E hr h => ?_)
  · obtain ⟨_, _, _, _, _, _, rfl, _⟩ := h
    rfl
  · obtain ⟨v, v2, ps, ms, xs, wd, rfl, tabs, hp, hg, hs, ha, hw, k⟩ := h
    refine ⟨_, pss_cons (ps_expr (pe_c c1 hr (by decide) rfl (pa_cons (pv 0) (pa_cons (pv 1) pa_nil))))
      (pss_one (ps_ret (pe_callTy call_tupleS (by rfl) X.n_tuple (by decide +kernel) (pa_cons (pe_ix ix_tup (pe_c c2 hr (by decide) rfl (pa_cons (pv 0) (pa_cons (pv 1) pa_nil))) pe_int (fun _ _ => rfl)) pa_nil)))), ?_⟩
    refine ⟨_, rfl, _, rfl, v, v2, ps, ms, xs, wd, rfl, hp, hg, hs, ha, hw, fun H1 u1 => ?_⟩
    refine ⟨_, rfl, _, rfl, v, v2, ps, ms, xs, wd, rfl, u1.2 tabs, hp.up u1, hg, hs.up u1, ha.mono (fun _ _ r => r.tk u1.tk), hw, fun t l1 l2 ys H2 u2 ht h1 h2 _ => ?_⟩
    exact ⟨t, _, 0, .ref l1, rfl, rfl, .of ht, rfl, _, _, rfl, ⟨l1, rfl, .inl h1⟩, fun t' H' u' ht' => k t' H' ((u1.trans u2).trans (u' T)) ht'⟩
theorem sc22 : FnScope ["plan", "world", "delays", "day", "names", "name", "start", "delay"] ["plan", "world", "delays", "day"] (defScope s_lot_behind) := ⟨rfl, rfl, rfl, by decide +kernel, rfl, by decide +kernel, by decide +kernel⟩
theorem ok_lot_behind (F : Fun K "lot_behind" "lot_behind" s_lot_behind f fd) (X : Tx K mg C) (c1 : PrpF P w K mg base C "names" 2 ["self"] (sp_names T C)) (c2 : CalF P w K mg base "since" 7 ["plan", "world"] (sp_since T C)) :
    FnOk P w K mg base CX0 8 f fd ["plan", "world", "delays", "day"] (sp_lot_behind T C) := by
  refine F.ok sc22 (fun vs H Q E h => ?_) (fun cdv A outer s H vs Q E hr h => ?_)
  · obtain ⟨_, _, _, _, _, _, _, _, _, rfl, _⟩ := h
    rfl
  · obtain ⟨v, v2, ps, ms, xs, wd, ld, ds, d, rfl, tabs, hp, hg, h64, hs, ha, hw, hld, hdl, k⟩ := h
    refine ⟨_, pss_cons (ps_set (i := 4) sc22.nd rfl (.inl rfl) (pe_lst pa_nil))
      (pss_cons (ps_for PassesOwn.never rfl (pi_zip3 (by rfl) X.n_zip (pa_cons (pe_p (pv 0) X.cl c1 hr (by decide)) (pa_cons (pe_c c2 hr (by decide) rfl (pa_cons (pv 0) (pa_cons (pv 1) pa_nil))) (pa_cons (pv 2) pa_nil)))) (pg_tup (by rfl) (pgs_cons (pg_name (i := 5) sc22.nd rfl (.inl rfl)) (pgs_cons (pg_name (i := 6) sc22.nd rfl (.inl rfl)) (pgs_cons (pg_name (i := 7) sc22.nd rfl (.inl rfl)) pgs_nil))))
        (pss_one (ps_if (PW.pt (pw_and (pt_cmpR op_notN (pv 6) pe_non (nomark _)) (pw_and1 (pt_cmpR op_le (pe_op op_add (pv 6) (pv 7)) (pv 3) (nomark _)))))
          (pss_one (ps_expr (pe_bm PySem.F.plainAttrs_list PySem.F.slot_list_append PySem.F.type_list_append mt_append (pv 4) (pa_cons (pv 5) pa_nil)))) pss_nil)))
      (pss_one (ps_ret (pe_callTy call_tupleS (by rfl) X.n_tuple (by decide +kernel) (pa_cons (pe_callB cr_sortedS (by rfl) X.n_sorted (by decide +kernel) (pa_cons (pv 4) pa_nil)) pa_nil))))), ?_⟩
    have hsz : sizeLine = 16777216 := sizeLine_eq
    obtain ⟨a, dx, _, _, _, _, rfl, haI, _⟩ := id hp
    refine ⟨Nat.zero_le _, fun l hl0 => ?_⟩
    have u1 : Up T H (upd H l (.lst [])) := Up.new hl0
    refine ⟨_, rfl, a, dx, _, rfl, u1.i haI, _, ps, ms, rfl, hp.up u1, hg, fun tn H2 u2 htn => ?_⟩
    have u12 := u1.trans u2
    refine ⟨_, rfl, _, rfl, _, v2, ps, ms, xs, wd, rfl, u12.2 tabs, hp.up u12, hg, hs.up u12, ha.mono (fun _ _ r => r.tk u12.tk), hw, fun ts H3 u3 hts => ?_⟩
    have u13 := u12.trans u3
    have hl3 := (u2.trans u3).l (upd_same (H := H) (a := l) (o := .lst []))
    have nl : (namesOf ps).length = ps.length := List.length_map ..
    have sl : (sinceM ps ms wd).length = ps.length := since_len
    have k0 : SqK K H3 (false, tn) ((namesOf ps).map V.str) := (show SqT K H3 tn _ from (htn.up u3).st)
    have k1 : SqK K H3 (false, ts) ((sinceM ps ms wd).map optV) := (show SqT K H3 ts _ from .of hts)
    have k2 : SqK K H3 (true, ld) (ds.map V.int) := (show SqL K H3 ld _ from .of (u13.l hld))
    have nld : l ≠ ld := (ne_of_none hld hl0).symm
    refine ⟨_, rfl, (false, tn), (false, ts), (true, ld), _, _, _, rfl, k0, k1, k2, for_it (walk_zip3 (by simp [nl, sl]) (by simp [nl, hdl])) (fun i σ H' => ∃ o5 o6 o7, σ = [some (.ref a), some v2, some (.ref ld), some (.int d), some (.ref l), o5, o6, o7] ∧ Up T H H' ∧ SqK K H' (false, tn) ((namesOf ps).map V.str) ∧ SqK K H' (false, ts) ((sinceM ps ms wd).map optV) ∧
        H' ld = some (.lst (ds.map V.int)) ∧ H' l = some (.lst ((((List.range i).filter (delB ds (sinceM ps ms wd) d)).map fun i => ((namesOf ps)[i]?).getD (Str.ofString "")).map V.str)))
      ⟨none, none, none, rfl, u13, k0, k1, u13.l hld, hl3⟩ (fun i σ H' _ ⟨_, _, _, _, u, a0, a1, a2, _⟩ => ⟨a0, a1, (show SqL K H' ld _ from .of a2)⟩) (fun i x σ H' H4 hi p y => ?_) (fun σ H' p => ?_)⟩
    · obtain ⟨o5, o6, o7, rfl, u, a0, a1, a2, hL⟩ := p
      obtain ⟨tq, x1, x2, x3, rfl, hT, rfl, e1, e2, e3⟩ := y
      obtain ⟨nm, en, rfl⟩ := map_get e1
      obtain ⟨st, es, rfl⟩ := map_get e2
      obtain ⟨dl, ed, rfl⟩ := map_get e3
      have u4 : Up T H' (upd H' tq (.tup [.str nm, optV st, .int dl])) := Up.new hT
      have uu := u.trans u4
      refine ⟨tq, _, rfl, .of upd_same, rfl, _, _, rfl, _, _, rfl, _, _, rfl, rfl, ?_⟩
      have edb : delB ds (sinceM ps ms wd) d i = ableB dl st d := by
        unfold delB
        rw [ed, es] <;> rfl
      have hno : delB ds (sinceM ps ms wd) d i = false → ∃ o5 o6 o7, [some (V.ref a), some v2, some (.ref ld), some (.int d), some (.ref l), some (.str nm), some (optV st), some (.int dl)] = [some (.ref a), some v2, some (.ref ld), some (.int d), some (.ref l), o5, o6, o7] ∧ Up T H (upd H' tq (.tup [.str nm, optV st, .int dl])) ∧ SqK K (upd H' tq (.tup [.str nm, optV st, .int dl])) (false, tn) ((namesOf ps).map V.str) ∧ SqK K (upd H' tq (.tup [.str nm, optV st, .int dl])) (false, ts) ((sinceM ps ms wd).map optV) ∧
          (upd H' tq (.tup [.str nm, optV st, .int dl])) ld = some (.lst (ds.map V.int)) ∧ (upd H' tq (.tup [.str nm, optV st, .int dl])) l = some (.lst ((((List.range (i + 1)).filter (delB ds (sinceM ps ms wd) d)).map fun i => ((namesOf ps)[i]?).getD (Str.ofString "")).map V.str)) := by
        intro h
        refine ⟨_, _, _, rfl, uu, a0.up u4, a1.up u4, u4.l a2, ?_⟩
        rw [u4.l hL, List.range_succ, List.filter_append]
        simp [h]
      cases st with
      | none => exact ⟨_, rfl, rfl, false, rfl, iteF (iteF (hno (by rw [edb]; rfl)))⟩
      | some z =>
        refine ⟨_, rfl, rfl, true, rfl, iteT ⟨_, rfl, _, rfl, z, dl, rfl, rfl, _, rfl, _, d, rfl, rfl, _, rfl, ?_⟩⟩
        have edb' : delB ds (sinceM ps ms wd) d i = decide (z + dl ≤ d) := edb
        cases hc : decide (z + dl ≤ d) with
        | false => exact iteF (hno (by rw [edb', hc]))
        | true =>
          have hlen : ((((List.range i).filter (delB ds (sinceM ps ms wd) d)).map fun i => ((namesOf ps)[i]?).getD (Str.ofString "")).map V.str).length ≤ i := by
            rw [List.length_map, List.length_map]
            exact Nat.le_trans (List.length_filter_le _ _) (by rw [List.length_range]; exact Nat.le_refl _)
          have hi2 : i < ps.length := by
            rw [List.length_map, nl] at hi
            exact hi
          refine iteT ⟨_, rfl, .inl ⟨rfl, _, SqL.of (u4.l hL)⟩, _, rfl, l, _, _, rfl, rfl, u4.l hL, by omega, ?_⟩
          have nl0 : H l = none := hl0
          refine ⟨_, _, _, rfl, uu.mutL nl0 (u4.l hL), sqt_mut (a0.up u4) (u4.l hL), sqt_mut (a1.up u4) (u4.l hL), ?_, ?_⟩
          · rw [upd_ne nld.symm]
            exact u4.l a2
          · rw [upd_same, List.range_succ, List.filter_append, List.map_append, List.map_append]
            simp [edb', hc, en]
    · obtain ⟨o5, o6, o7, rfl, u, a0, a1, a2, hL⟩ := p
      have el : ((namesOf ps).map V.str).length = (namesOf ps).length := List.length_map ..
      rw [el] at hL
      have hlen : (((List.range (namesOf ps).length).filter (delB ds (sinceM ps ms wd) d)).map fun i => ((namesOf ps)[i]?).getD (Str.ofString "")).length < 64 := by
        rw [List.length_map]
        have := List.length_filter_le (delB ds (sinceM ps ms wd) d) (List.range (namesOf ps).length)
        rw [List.length_range] at this
        omega
      refine ⟨_, rfl, l, _, rfl, .of hL, hlen, fun ys p hperm hsort hp0 => ?_⟩
      have u5 : Up T H' (upd H' p (.lst (ys.map V.str))) := Up.new hp0
      exact ⟨_, _, rfl, ⟨p, rfl, .inl upd_same⟩, fun t H6 u6 ht => k t ys H6 ((u.trans u5).trans (u6 T)) hperm hsort ht⟩
theorem sc23 : FnScope ["plan", "world", "day", "person"] ["plan", "world", "day"] (defScope s_able) := ⟨rfl, rfl, rfl, by decide +kernel, rfl, by decide +kernel, by decide +kernel⟩
theorem ok_able (F : Fun K "able" "able" s_able f fd) (X : Tx K mg C) (c1 : CalF P w K mg base "lot_behind" 8 ["plan", "world", "delays", "day"] (sp_lot_behind T C)) :
    FnOk P w K mg base CX0 9 f fd ["plan", "world", "day"] (sp_lot T C (·.wt)) := by
  refine F.ok sc23 (fun vs H Q E h => ?_) (fun cdv A outer s H vs Q E hr h => ?_)
  · obtain ⟨_, _, _, _, _, _, _, rfl, _⟩ := h
    rfl
  · obtain ⟨v, v2, ps, ms, xs, wd, d, rfl, tabs, hp, hg, h64, hs, ha, hw, k⟩ := h
    refine ⟨_, pss_one (ps_ret (pe_c c1 hr (by decide) rfl (pa_cons (pv 0) (pa_cons (pv 1) (pa_cons (pe_lc (own := [("person", 3)]) (g := gName 3) (tt := tYes) rfl sc23.nd (pi_sq (pe_fld (pv 0) rfl)) (blkOk_by (own := [("person", 3)]) (N := ["plan", "world", "day", "person"]) (sc := defScope s_able) (by decide +kernel))
      (fun _ _ _ _ _ => pg_name (i := 3) sc23.nd rfl (Or.inl rfl)) (fun _ _ _ _ _ => pts_nil) (fun _ _ _ _ _ => pe_ix (r := rIxT K) ix_tup (pv 3) pe_int (fun _ _ => rfl))) (pa_cons (pv 2) pa_nil)))))), ?_⟩
    obtain ⟨a, dx, tp, tm, ys, zs, rfl, haI, hxp, ap, hym, am⟩ := id hp
    have few := hg.ppl.few
    have hxl := ap.1
    refine ⟨_, rfl, _, rfl, _, rfl, a, C, dx, _, _, rfl, haI, X.cl, X.nP, pf_p _ _, (false, tp), ys, rfl, (show SqT K H tp ys from .of hxp), fun D hD => lc_map (T := T) walk_sq (fun i => .int ((ps[i]?).elim 0 (·.wt))) (by omega) hD (fun H' u => (show SqT K H' tp ys from .of (u.t hxp))) (fun i x H0 H' Qe hi u y qe => ?_) (fun H' u hL => ?_)⟩
    · obtain ⟨rfl, hx⟩ := y
      obtain ⟨p, hpp, t, s', rfl, ht, _⟩ := ap.get hx
      refine ⟨rfl, _, rfl, t, _, 1, .int p.wt, rfl, rfl, .of (u.t ht), rfl, ?_⟩
      have z := qe H' (Up.refl H')
      rw [hpp] at z
      exact z
    · refine ⟨_, rfl, _, v2, ps, ms, xs, wd, D, ps.map (·.wt), d, rfl, u.2 tabs, hp.up u, hg, h64, hs.up u, ha.mono (fun _ _ r => r.tk u.tk), hw, ?_, by rw [List.length_map], fun t ys' H2 u2 hperm hsort ht => k t ys' H2 (u.trans u2) hperm hsort ht⟩
      rw [hL]
      congr 2
      apply List.ext_getElem?
      intro i
      by_cases hi : i < ys.length
      · rw [List.getElem?_map, List.getElem?_range hi, List.getElem?_map, List.getElem?_map]
        have hi2 : i < ps.length := by omega
        simp [List.getElem?_eq_getElem hi2]
      · rw [List.getElem?_eq_none (by simp; omega), List.getElem?_eq_none (by simp; omega)]

theorem sc24 : FnScope ["plan", "world", "day", "person"] ["plan", "world", "day"] (defScope s_shows) := ⟨rfl, rfl, rfl, by decide +kernel, rfl, by decide +kernel, by decide +kernel⟩
theorem ok_shows (F : Fun K "shows" "shows" s_shows f fd) (X : Tx K mg C) (c1 : CalF P w K mg base "lot_behind" 8 ["plan", "world", "delays", "day"] (sp_lot_behind T C)) :
    FnOk P w K mg base CX0 9 f fd ["plan", "world", "day"] (sp_lot T C (·.sh)) := by
  refine F.ok sc24 (fun vs H Q E h => ?_) (fun cdv A outer s H vs Q E hr h => ?_)
  · obtain ⟨_, _, _, _, _, _, _, rfl, _⟩ := h
    rfl
  · obtain ⟨v, v2, ps, ms, xs, wd, d, rfl, tabs, hp, hg, h64, hs, ha, hw, k⟩ := h
    refine ⟨_, pss_one (ps_ret (pe_c c1 hr (by decide) rfl (pa_cons (pv 0) (pa_cons (pv 1) (pa_cons (pe_lc (own := [("person", 3)]) (g := gName 3) (tt := tYes) rfl sc24.nd (pi_sq (pe_fld (pv 0) rfl)) (blkOk_by (own := [("person", 3)]) (N := ["plan", "world", "day", "person"]) (sc := defScope s_shows) (by decide +kernel))
      (fun _ _ _ _ _ => pg_name (i := 3) sc24.nd rfl (Or.inl rfl)) (fun _ _ _ _ _ => pts_nil) (fun _ _ _ _ _ => pe_ix (r := rIxT K) ix_tup (pv 3) pe_int (fun _ _ => rfl))) (pa_cons (pv 2) pa_nil)))))), ?_⟩
    obtain ⟨a, dx, tp, tm, ys, zs, rfl, haI, hxp, ap, hym, am⟩ := id hp
    have few := hg.ppl.few
    have hxl := ap.1
    refine ⟨_, rfl, _, rfl, _, rfl, a, C, dx, _, _, rfl, haI, X.cl, X.nP, pf_p _ _, (false, tp), ys, rfl, (show SqT K H tp ys from .of hxp), fun D hD => lc_map (T := T) walk_sq (fun i => .int ((ps[i]?).elim 0 (·.sh))) (by omega) hD (fun H' u => (show SqT K H' tp ys from .of (u.t hxp))) (fun i x H0 H' Qe hi u y qe => ?_) (fun H' u hL => ?_)⟩
    · obtain ⟨rfl, hx⟩ := y
      obtain ⟨p, hpp, t, s', rfl, ht, _⟩ := ap.get hx
      refine ⟨rfl, _, rfl, t, _, 2, .int p.sh, rfl, rfl, .of (u.t ht), rfl, ?_⟩
      have z := qe H' (Up.refl H')
      rw [hpp] at z
      exact z
    · refine ⟨_, rfl, _, v2, ps, ms, xs, wd, D, ps.map (·.sh), d, rfl, u.2 tabs, hp.up u, hg, h64, hs.up u, ha.mono (fun _ _ r => r.tk u.tk), hw, ?_, by rw [List.length_map], fun t ys' H2 u2 hperm hsort ht => k t ys' H2 (u.trans u2) hperm hsort ht⟩
      rw [hL]
      congr 2
      apply List.ext_getElem?
      intro i
      by_cases hi : i < ys.length
      · rw [List.getElem?_map, List.getElem?_range hi, List.getElem?_map, List.getElem?_map]
        have hi2 : i < ps.length := by omega
        simp [List.getElem?_eq_getElem hi2]
      · rw [List.getElem?_eq_none (by simp; omega), List.getElem?_eq_none (by simp; omega)]
end
end FB

set_option Elab.async false
set_option maxRecDepth 100000
set_option maxHeartbeats 16000000
namespace FB
open PySem L2
theorem erase_map {α β : Type} (g : α → β) : ∀ (l : List α) (i : Nat), (l.map g).eraseIdx i = (l.eraseIdx i).map g
  | [], _ => rfl
  | a :: l, 0 => rfl
  | a :: l, i + 1 => by
    show g a :: (l.map g).eraseIdx i = _
    rw [erase_map g l i] <;> rfl
theorem erase_perm {α : Type} : ∀ (l : List α) (i : Nat) (h : i < l.length), (l[i] :: l.eraseIdx i).Perm l
  | a :: l, 0, _ => List.Perm.refl _
  | a :: l, i + 1, h => by
    have h' : i < l.length := Nat.lt_of_succ_lt_succ h
    have ih := erase_perm l i h'
    show (l[i] :: a :: l.eraseIdx i).Perm (a :: l)
    exact (List.Perm.swap a l[i] _).trans (List.Perm.cons a ih)
theorem range_get {α β : Type} (l : List α) (F : Nat → β) (g : α → β) (h : ∀ i a, l[i]? = some a → F i = g a) : (List.range l.length).map F = l.map g := by
  apply List.ext_getElem?
  intro i
  by_cases hi : i < l.length
  · rw [List.getElem?_map, List.getElem?_range hi, List.getElem?_map, List.getElem?_eq_getElem hi]
    show some (F i) = some (g l[i])
    rw [h i _ (List.getElem?_eq_getElem hi)]
  · rw [List.getElem?_eq_none (by simp; omega), List.getElem?_eq_none (by simp; omega)]
/-! ### flat lists as data -/
theorem lay_all : ∀ {ds : List PyData}, (∀ d ∈ ds, d.canLay0 = true ∧ d.depth ≤ 1) → PyData.canLayAll0 ds = true ∧ PyData.depthAll ds ≤ 1
  | [], _ => ⟨by simp [PyData.canLayAll0], by simp [PyData.depthAll]⟩
  | d :: r, h => by
    obtain ⟨h1, h2⟩ := h d (List.mem_cons_self ..)
    obtain ⟨a, b⟩ := lay_all (ds := r) fun x hx => h x (List.mem_cons_of_mem _ hx)
    refine ⟨by simp [PyData.canLayAll0, h1, a], ?_⟩
    simp only [PyData.depthAll]
    omega
theorem shp_list {ds : List PyData} (h : ∀ d ∈ ds, d.canLay0 = true ∧ d.depth ≤ 1) : SeqAt.shaped (.list ds) = true := by
  obtain ⟨a, b⟩ := lay_all h
  unfold SeqAt.shaped
  have h1 : (PyData.list ds).canLay0 = true := by simp [PyData.canLay0, a]
  have h2 : (PyData.list ds).depth ≤ 64 := by
    simp only [PyData.depth]
    omega
  simp [h1, h2]
theorem shp_tup {ds : List PyData} (h : ∀ d ∈ ds, d.canLay0 = true ∧ d.depth ≤ 1) : SeqAt.shaped (.tuple ds) = true := by
  obtain ⟨a, b⟩ := lay_all h
  unfold SeqAt.shaped
  have h1 : (PyData.tuple ds).canLay0 = true := by simp [PyData.canLay0, a]
  have h2 : (PyData.tuple ds).depth ≤ 64 := by
    simp only [PyData.depth]
    omega
  simp [h1, h2]
theorem shp_ints (cs : List Int) : SeqAt.shaped (.list (cs.map PyData.int)) = true := shp_list fun d hd => by
  obtain ⟨c, _, rfl⟩ := List.mem_map.mp hd
  exact ⟨by simp [PyData.canLay0], by simp [PyData.depth]⟩
theorem dpAll_map {α : Type} {K : PySem.W.Frag} {H : Hp} {f : α → V} {g : α → PyData} (h : ∀ a, Dp K H (f a) (g a)) : ∀ l : List α, DpAll K H (l.map f) (l.map g)
  | [] => .nil
  | a :: l => .cons (h a) (dpAll_map h l)
theorem eqv_nil (ds : List PyData) : PyData.eqv (.list ds) (.list []) = ds.isEmpty := by
  cases ds <;> rfl
/-! ### the box of draws -/
end FB

set_option Elab.async false
set_option maxRecDepth 100000
set_option maxHeartbeats 16000000
set_option linter.unusedVariables false
/-! looks.py and the chain of worlds.py, def by def -/
namespace FB
open PySem L2

abbrev s_chain : Stmt := topS 29
abbrev s_is_look : Stmt := topS 31
abbrev s_check_looks : Stmt := topS 32
abbrev s_late : Stmt := topS 33
abbrev s_holds : Stmt := topS 34
abbrev s_broken : Stmt := topS 35
abbrev s_fits : Stmt := topS 36

structure Look where
  dy : Int
  nm : Str
  sn : Bool
def LookV (H : Hp) (v : V) (l : Look) : Prop := ∃ t, v = .ref t ∧ H t = some (.tup [.int l.dy, .str l.nm, .bl l.sn])
theorem LookV.tk {H H' : Hp} {v : V} {l : Look} (e : TK H H') (h : LookV H v l) : LookV H' v l := by
  obtain ⟨t, h1, h2⟩ := h
  exact ⟨t, h1, e _ _ h2⟩
structure GoodLook (ps : List Per) (l : Look) : Prop where
  dy : 0 ≤ l.dy
  nm : l.nm ∈ namesOf ps
def shAt (ps : List Per) (i : Nat) : Int := (ps[i]?).elim 0 (·.sh)
/-- the latest day since when the person of a look shows it on its day -/
def lateM (ps : List Per) (l : Look) : Int := l.dy - shAt ps (pl ps l.nm)
def showsB (ps : List Per) (l : Look) (st : List (Option Int)) : Bool := match (st[pl ps l.nm]?).getD none with | none => false | some s => decide (s ≤ lateM ps l)
def holdsB (ps : List Per) (l : Look) (st : List (Option Int)) : Bool := decide (showsB ps l st = l.sn)
def brokenM (ps : List Per) (ms : List Mee) (ls : List Look) (wd : Wor) : List Nat := (List.range ls.length).filter fun i => !((ls[i]?).elim true fun l => holdsB ps l (sinceM ps ms wd))
/-- from a person on, by what brought it, to a first one -/
inductive Path (srcs : List (Option (Nat × Nat))) : Nat → List Nat → Prop
  | own {i : Nat} : srcs[i]? = some none → Path srcs i []
  | by_ {i g at_ : Nat} {r : List Nat} : srcs[i]? = some (some (g, at_)) → Path srcs g r → Path srcs i (at_ :: r)

section
variable (T : Tb) (C : Addr)
def sp_is_look : Sp := fun vs H Q _ => ∃ v v2 ps ms l, vs = [v, v2] ∧ PlanAt C H v ps ms ∧ Good ps ms ∧ LookV H v2 l ∧ GoodLook ps l ∧ ∀ H', Up T H H' → Q (.bl true) H'
def sp_check_looks : Sp := fun vs H Q _ => ∃ v v2 ps ms xs ls, vs = [v, v2] ∧ PlanAt C H v ps ms ∧ Good ps ms ∧ Seq H v2 xs ∧ AllV (LookV H) xs ls ∧ (∀ l ∈ ls, GoodLook ps l) ∧ ls.length ≤ 1000 ∧ ∀ H', Up T H H' → Q .non H'
def sp_late : Sp := fun vs H Q _ => ∃ v v2 ps ms l, vs = [v, v2] ∧ PlanAt C H v ps ms ∧ Good ps ms ∧ LookV H v2 l ∧ GoodLook ps l ∧ ∀ H', Up T H H' → Q (.int (lateM ps l)) H'
def sp_holds : Sp := fun vs H Q _ => ∃ v v2 t ps ms l st, vs = [v, v2, .ref t] ∧ PlanAt C H v ps ms ∧ Good ps ms ∧ LookV H v2 l ∧ GoodLook ps l ∧ H t = some (.tup (st.map optV)) ∧ st.length = ps.length ∧ ∀ H', Up T H H' → Q (.bl (holdsB ps l st)) H'
def sp_broken : Sp := fun vs H Q _ => ∃ v v2 v3 ps ms xs ls ys wd, vs = [v, v2, v3] ∧ LamX.Tabs T H ∧ PlanAt C H v ps ms ∧ Good ps ms ∧ Seq H v2 xs ∧ AllV (LookV H) xs ls ∧ (∀ l ∈ ls, GoodLook ps l) ∧ ls.length ≤ 1000 ∧ Seq H v3 ys ∧ AllV (PairV H) ys wd ∧ GoodW ps wd ∧
  ∀ t H', Up T H H' → H' t = some (.tup ((brokenM ps ms ls wd).map fun i => V.int (i : Nat))) → Q (.ref t) H'
def sp_chain : Sp := fun vs H Q _ => ∃ v v2 z ps ms xs wd o, vs = [v, v2, .str z] ∧ LamX.Tabs T H ∧ PlanAt C H v ps ms ∧ Good ps ms ∧ z ∈ namesOf ps ∧ Seq H v2 xs ∧ AllV (PairV H) xs wd ∧ GoodW ps wd ∧ (sinceM ps ms wd)[pl ps z]? = some o ∧
  ((o = none ∧ ∀ H', Up T H H' → Q .non H') ∨ (o ≠ none ∧ ∃ ats, Path (spreadM ps ms wd).2 (pl ps z) ats ∧ ats.length ≤ 1000 ∧ ∀ t H', Up T H H' → H' t = some (.tup (ats.map fun i => V.int (i : Nat)).reverse) → Q (.ref t) H'))
def sp_fits : Sp := fun vs H Q _ => ∃ v v2 v3 ps ms xs ls ys wd, vs = [v, v2, v3] ∧ LamX.Tabs T H ∧ PlanAt C H v ps ms ∧ Good ps ms ∧ Seq H v2 xs ∧ AllV (LookV H) xs ls ∧ (∀ l ∈ ls, GoodLook ps l) ∧ ls.length ≤ 1000 ∧ Seq H v3 ys ∧ AllV (PairV H) ys wd ∧ GoodW ps wd ∧
  ∀ H', Up T H H' → Q (.bl (brokenM ps ms ls wd).isEmpty) H'
end
section
variable {P : Program} {w : World} {K : PySem.W.Frag} {mg : Str → Option Value} {base : Heap} {T : Tb} {C f : Addr} {fd : FuncData}
theorem sc50 : FnScope ["plan", "value", "day", "name", "is_shown"] ["plan", "value"] (defScope s_is_look) := ⟨rfl, rfl, rfl, by decide +kernel, rfl, by decide +kernel, by decide +kernel⟩
theorem ok_is_look (F : Fun K "is_look" "is_look" s_is_look f fd) (X : Tx K mg C) (c1 : CalF P w K mg base "is_tuple_of" 1 ["value", "many"] (sp_is_tuple_of T)) (c2 : CalF P w K mg base "is_number" 2 ["value"] (sp_is_number T)) (c3 : PrpF P w K mg base C "names" 2 ["self"] (sp_names T C)) :
    FnOk P w K mg base CX0 4 f fd ["plan", "value"] (sp_is_look T C) := by
  refine F.ok sc50 (fun vs H Q E h => ?_) (fun cdv A outer s H vs Q E hr h => ?_)
  · obtain ⟨_, _, _, _, _, rfl, _⟩ := h
    rfl
  · obtain ⟨v, v2, ps, ms, l, rfl, hp, hg, ⟨t, rfl, ht⟩, gl, q⟩ := h
    refine ⟨_, pss_cons (ps_if (pt_not (pt_val (pe_c c1 hr (by decide) rfl (pa_cons (pv 1) (pa_cons pe_int pa_nil))))) (pss_one (ps_ret pe_bl)) pss_nil)
      (pss_cons (ps_asg (pv 1) (pg_tup (by rfl) (pgs_cons (pg_name (i := 2) sc50.nd rfl (.inl rfl)) (pgs_cons (pg_name (i := 3) sc50.nd rfl (.inl rfl)) (pgs_cons (pg_name (i := 4) sc50.nd rfl (.inl rfl)) pgs_nil)))))
      (pss_one (ps_ret (pe_and (pe_c c2 hr (by decide) rfl (pa_cons (pv 2) pa_nil)) (pe_and (pe_cmpR op_in_seq (pv 3) (pe_p (pv 0) X.cl c3 hr (by decide)) rfl)
        (pe_one (pe_callB call_isi (by rfl) X.n_isinstance (by decide +kernel) (pa_cons (pv 4) (pa_cons (pe_bltn (by rfl) X.n_bool (by decide +kernel) (v := .ty "bool") rfl) pa_nil))))))))), ?_⟩
    refine ⟨_, rfl, _, 3, rfl, .inl ⟨t, _, rfl, ht, fun H1 u1 => ⟨true, rfl, iteF ?_⟩⟩⟩
    refine ⟨_, rfl, t, _, rfl, .of (u1.t ht), rfl, _, _, rfl, _, _, rfl, _, _, rfl, rfl, ?_⟩
    refine ⟨_, rfl, _, .int, rfl, .int _, fun H2 u2 => ⟨true, ?_, iteT ?_⟩⟩
    · show V.bl (decide (0 ≤ l.dy)) = V.bl true
      rw [decide_eq_true gl.dy]
    have u12 := u1.trans u2
    obtain ⟨a, dx, tp, tm, xs, ys, rfl, ha, hxp, ap, hym, am⟩ := id hp
    refine ⟨_, rfl, _, rfl, a, dx, _, rfl, u12.i ha, _, ps, ms, rfl, hp.up u12, hg, fun t2 H3 u3 ht2 => ?_⟩
    refine ⟨t2, _, rfl, .inr ht2.st, rfl, all_flat _, true, ?_, iteT ?_⟩
    · rw [inV_str, decide_eq_true gl.nm] <;> rfl
    refine ⟨_, rfl, _, .ty "bool", _, _, _, rfl, .ty "bool", (Ty.bl (H := H3) l.sn).x, kit_ty (kit_bl .bl), ?_⟩
    exact q H3 (u12.trans u3)
theorem sc51 : FnScope ["plan", "looks", "at", "look"] ["plan", "looks"] (defScope s_check_looks) := ⟨rfl, rfl, rfl, by decide +kernel, rfl, by decide +kernel, by decide +kernel⟩
theorem ok_check_looks (F : Fun K "check_looks" "check_looks" s_check_looks f fd) (X : Tx K mg C) (c1 : CalF P w K mg base "is_sequence" 1 ["value"] (sp_is_sequence T)) (c2 : CalF P w K mg base "is_look" 4 ["plan", "value"] (sp_is_look T C)) :
    FnOk P w K mg base CX0 5 f fd ["plan", "looks"] (sp_check_looks T C) := by
  refine F.ok sc51 (fun vs H Q E h => ?_) (fun cdv A outer s H vs Q E hr h => ?_)
  · obtain ⟨_, _, _, _, _, _, rfl, _⟩ := h
    rfl
  · obtain ⟨v, v2, ps, ms, xs, ls, rfl, hp, hg, hs, ha, hw, hl, k⟩ := h
    refine ⟨_, pss_cons (ps_if (pt_not (pt_val (pe_c c1 hr (by decide) rfl (pa_cons (pv 1) pa_nil)))) (pss_one ps_never) pss_nil)
      (pss_one (ps_for PassesOwn.never rfl (pi_enumc (by rfl) X.n_enumerate (pa_cons (pv 1) pa_nil)) (pg_tup (by rfl) (pgs_cons (pg_name (i := 2) sc51.nd rfl (.inl rfl)) (pgs_cons (pg_name (i := 3) sc51.nd rfl (.inl rfl)) pgs_nil)))
        (pss_one (ps_if (pt_not (pt_val (pe_c c2 hr (by decide) rfl (pa_cons (pv 0) (pa_cons (pv 3) pa_nil))))) (pss_one ps_never) pss_nil)))), ?_⟩
    obtain ⟨kd, ty, hk⟩ := hs.ty
    have hla := ha.1
    refine ⟨_, rfl, _, kd, rfl, ty, fun H1 u1 => ⟨true, by rw [hk], iteF ?_⟩⟩
    obtain ⟨c, rfl, hc⟩ := (hs.up u1).sq (K := K)
    refine ⟨_, rfl, c, xs, rfl, hc, for_it walk_enumc (fun i σ H' => ∃ o1 o2, σ = [some v, some (.ref c.2), o1, o2] ∧ Up T H1 H')
      ⟨none, none, rfl, Up.refl _⟩ (fun i σ H' _ ⟨_, _, _, u⟩ => hc.up u) (fun i x σ H' H2 hi p y => ?_) (fun σ H' p => ?_)⟩
    · obtain ⟨o1, o2, rfl, u⟩ := p
      obtain ⟨tp, x1, x2, rfl, hT, rfl, e1, e2⟩ := y
      cases e1
      obtain ⟨l, hl', hv⟩ := ha.get e2
      have hlm : l ∈ ls := List.mem_of_getElem? hl'
      have u3 : Up T H' (upd H' tp (.tup [.int (i : Nat), x2])) := Up.new hT
      have uu := (u1.trans u).trans u3
      refine ⟨tp, _, rfl, .of upd_same, rfl, _, _, rfl, _, _, rfl, rfl, ?_⟩
      exact ⟨_, rfl, _, rfl, _, _, ps, ms, l, rfl, hp.up uu, hg, hv.tk uu.tk, hw l hlm, fun H3 u4 => ⟨true, rfl, iteF ⟨_, _, rfl, (u.trans u3).trans u4⟩⟩⟩
    · obtain ⟨o1, o2, rfl, u⟩ := p
      exact k H' (u1.trans u)
theorem sh_at {H : Hp} {ps : List Per} {xs : List V} (ap : AllV (PerV H) xs ps) {i : Nat} (h : i < ps.length) : ∃ t s nm wt, xs[i]? = some (.ref t) ∧ H t = some (.tup [.str nm, .int wt, .int (shAt ps i), s]) := by
  have e : ps[i]? = some ps[i] := List.getElem?_eq_getElem h
  obtain ⟨x, hx, t, s, rfl, ht, _⟩ := ap.get' e
  refine ⟨t, s, ps[i].nm, ps[i].wt, hx, ?_⟩
  have e2 : shAt ps i = ps[i].sh := by
    unfold shAt
    rw [e] <;> rfl
  rw [e2]
  exact ht
theorem sc52 : FnScope ["plan", "look", "day", "name", "is_shown"] ["plan", "look"] (defScope s_late) := ⟨rfl, rfl, rfl, by decide +kernel, rfl, by decide +kernel, by decide +kernel⟩
theorem ok_late (F : Fun K "latest_shown_start" "latest_shown_start" s_late f fd) (X : Tx K mg C) (c4 : MetF P w K mg base C "place" 4 ["self", "name"] (sp_place T C)) : FnOk P w K mg base CX0 5 f fd ["plan", "look"] (sp_late T C) := by
  refine F.ok sc52 (fun vs H Q E h => ?_) (fun cdv A outer s H vs Q E hr h => ?_)
  · obtain ⟨_, _, _, _, _, rfl, _⟩ := h
    rfl
  · obtain ⟨v, v2, ps, ms, l, rfl, hp, hg, ⟨t, rfl, ht⟩, gl, q⟩ := h
    refine ⟨_, pss_cons (ps_asg (pv 1) (pg_tup (by rfl) (pgs_cons (pg_name (i := 2) sc52.nd rfl (.inl rfl)) (pgs_cons (pg_name (i := 3) sc52.nd rfl (.inl rfl)) (pgs_cons (pg_name (i := 4) sc52.nd rfl (.inl rfl)) pgs_nil)))))
      (pss_one (ps_ret (pe_op op_sub (pv 2) (pe_ix ix_tup (pe_ix ix_tup (pe_fld (pv 0) rfl) (pe_m (pv 0) X.cl c4 hr (by decide) (pa_cons (pv 3) pa_nil)) (fun _ _ => rfl)) pe_int (fun _ _ => rfl))))), ?_⟩
    refine ⟨_, rfl, t, _, rfl, .of ht, rfl, _, _, rfl, _, _, rfl, _, _, rfl, rfl, ?_⟩
    obtain ⟨a, dx, tp, tm, xs, ys, rfl, ha, hxp, ap, hym, am⟩ := id hp
    have hi := pl_lt gl.nm
    obtain ⟨t2, s2, nm2, wt2, hx2, ht2⟩ := sh_at ap hi
    refine ⟨_, rfl, _, rfl, a, C, dx, _, _, rfl, ha, X.cl, X.nP, pf_p _ _, _, rfl, a, dx, _, rfl, ha, pf_no _ _ (by decide +kernel) (by decide +kernel), _, rfl, _, ps, ms, l.nm, pl ps l.nm, rfl, hp, hg, pl_at gl.nm, fun H3 u3 => ?_⟩
    exact ⟨tp, xs, (pl ps l.nm : Nat), _, rfl, rfl, .of (u3.t hxp), atI_nat hx2, t2, _, 2, _, rfl, rfl, .of (u3.t ht2), rfl, l.dy, shAt ps (pl ps l.nm), rfl, rfl, q H3 u3⟩
theorem sc53 : FnScope ["plan", "look", "starts", "day", "name", "is_shown", "start", "is_showing"] ["plan", "look", "starts"] (defScope s_holds) := ⟨rfl, rfl, rfl, by decide +kernel, rfl, by decide +kernel, by decide +kernel⟩
theorem ok_holds (F : Fun K "holds" "holds" s_holds f fd) (X : Tx K mg C) (c4 : MetF P w K mg base C "place" 4 ["self", "name"] (sp_place T C)) (c5 : CalF P w K mg base "latest_shown_start" 5 ["plan", "look"] (sp_late T C)) : FnOk P w K mg base CX0 6 f fd ["plan", "look", "starts"] (sp_holds T C) := by
  refine F.ok sc53 (fun vs H Q E h => ?_) (fun cdv A outer s H vs Q E hr h => ?_)
  · obtain ⟨_, _, _, _, _, _, _, rfl, _⟩ := h
    rfl
  · obtain ⟨v, v2, t0, ps, ms, l, st, rfl, hp, hg, ⟨t, rfl, ht⟩, gl, h0, hlen, q⟩ := h
    refine ⟨_, pss_cons (ps_asg (pv 1) (pg_tup (by rfl) (pgs_cons (pg_name (i := 3) sc53.nd rfl (.inl rfl)) (pgs_cons (pg_name (i := 4) sc53.nd rfl (.inl rfl)) (pgs_cons (pg_name (i := 5) sc53.nd rfl (.inl rfl)) pgs_nil)))))
      (pss_cons (ps_set (i := 6) sc53.nd rfl (.inl rfl) (pe_ix ix_tup (pv 2) (pe_m (pv 0) X.cl c4 hr (by decide) (pa_cons (pv 4) pa_nil)) (fun _ _ => rfl)))
      (pss_cons (ps_set (i := 7) sc53.nd rfl (.inl rfl) (pe_and (pe_cmpR op_notN (pv 6) pe_non (nomark _)) (pe_one (pe_cmpR op_le (pv 6) (pe_c c5 hr (by decide) rfl (pa_cons (pv 0) (pa_cons (pv 1) pa_nil))) (nomark _)))))
      (pss_one (ps_ret (pe_cmpR op_eq (pv 7) (pv 5) (nomark _)))))), ?_⟩
    refine ⟨_, rfl, t, _, rfl, .of ht, rfl, _, _, rfl, _, _, rfl, _, _, rfl, rfl, ?_⟩
    obtain ⟨a, dx, tp, tm, xs, ys, rfl, ha, hxp, ap, hym, am⟩ := id hp
    have hi := pl_lt gl.nm
    refine ⟨_, rfl, _, rfl, a, dx, _, rfl, ha, pf_no _ _ (by decide +kernel) (by decide +kernel), _, rfl, _, ps, ms, l.nm, pl ps l.nm, rfl, hp, hg, pl_at gl.nm, fun H3 u3 => ?_⟩
    obtain ⟨o, ho⟩ : ∃ o, st[pl ps l.nm]? = some o := ⟨_, List.getElem?_eq_getElem (by omega)⟩
    refine ⟨t0, st.map optV, (pl ps l.nm : Nat), optV o, rfl, rfl, .of (u3.t h0), atI_nat (by rw [List.getElem?_map, ho] <;> rfl), ?_⟩
    have es : showsB ps l st = o.elim false fun sd => decide (sd ≤ lateM ps l) := by
      unfold showsB
      rw [ho]
      cases o <;> rfl
    cases o with
    | none =>
      refine ⟨_, rfl, rfl, false, rfl, iteF ⟨_, rfl, _, rfl, rfl, ?_⟩⟩
      have z := q H3 u3
      unfold holdsB at z
      rw [es] at z
      have e : decide (V.bl false = V.bl l.sn) = decide (false = l.sn) := by
        cases l.sn <;> rfl
      rw [e]
      exact z
    | some sd =>
      refine ⟨_, rfl, rfl, true, rfl, iteT ⟨_, rfl, _, rfl, _, rfl, _, _, ps, ms, l, rfl, hp.up u3, hg, ⟨t, rfl, u3.t ht⟩, gl, fun H4 u4 => ?_⟩⟩
      refine ⟨sd, lateM ps l, rfl, rfl, _, rfl, _, rfl, rfl, ?_⟩
      have z := q H4 (u3.trans u4)
      unfold holdsB at z
      rw [es] at z
      have e : decide (V.bl (decide (sd ≤ lateM ps l)) = V.bl l.sn) = decide (decide (sd ≤ lateM ps l) = l.sn) := by
        cases l.sn <;> cases decide (sd ≤ lateM ps l) <;> rfl
      rw [e]
      exact z
theorem sc54 : FnScope ["plan", "looks", "world", "starts", "at", "look"] ["plan", "looks", "world"] (defScope s_broken) := ⟨rfl, rfl, rfl, by decide +kernel, rfl, by decide +kernel, by decide +kernel⟩
theorem ok_broken (F : Fun K "broken" "broken" s_broken f fd) (X : Tx K mg C) (c1 : CalF P w K mg base "check_looks" 5 ["plan", "looks"] (sp_check_looks T C)) (c2 : CalF P w K mg base "since" 7 ["plan", "world"] (sp_since T C)) (c3 : CalF P w K mg base "holds" 6 ["plan", "look", "starts"] (sp_holds T C)) :
    FnOk P w K mg base CX0 8 f fd ["plan", "looks", "world"] (sp_broken T C) := by
  refine F.ok sc54 (fun vs H Q E h => ?_) (fun cdv A outer s H vs Q E hr h => ?_)
  · obtain ⟨_, _, _, _, _, _, _, _, _, rfl, _⟩ := h
    rfl
  · obtain ⟨v, v2, v3, ps, ms, xs, ls, ys, wd, rfl, tabs, hp, hg, s1, a1, gl, few, s2, a2, gw, q⟩ := h
    refine ⟨_, pss_cons (ps_expr (pe_c c1 hr (by decide) rfl (pa_cons (pv 0) (pa_cons (pv 1) pa_nil))))
      (pss_cons (ps_set (i := 3) sc54.nd rfl (.inr rfl) (pe_c c2 hr (by decide) rfl (pa_cons (pv 0) (pa_cons (pv 2) pa_nil))))
      (pss_one (ps_ret (pe_callTy call_tupleS (by rfl) X.n_tuple (by decide +kernel) (pa_cons (pe_lc (own := [("at", 4), ("look", 5)]) (g := gTup K 2 (gCons (gName 4) (gCons (gName 5) gNil))) (tt := tNot (tB (tCall (sp_holds T C) [] E0 (tCons (tVar 0) (tCons (tVar 5) (tCons (tVar 3) tNil)))))) rfl sc54.nd (pi_enumc (by rfl) X.n_enumerate (pa_cons (pv 1) pa_nil)) (blkOk_by (own := [("at", 4), ("look", 5)]) (N := ["plan", "looks", "world", "starts", "at", "look"]) (sc := defScope s_broken) (by decide +kernel))
        (fun _ _ _ _ _ => pg_tup (by rfl) (pgs_cons (pg_name (i := 4) sc54.nd rfl (Or.inl rfl)) (pgs_cons (pg_name (i := 5) sc54.nd rfl (Or.inl rfl)) pgs_nil))) (fun _ _ _ _ _ => pts_one (pt_not (pt_val (pe_c c3 hr (by decide) rfl (pa_cons (pv 0) (pa_cons (pv 5) (pa_cons (pv 3) pa_nil))))))) (fun _ _ _ _ _ => pv 4)) pa_nil))))), ?_⟩
    have hla := a1.1
    refine ⟨_, rfl, _, rfl, v, v2, ps, ms, xs, ls, rfl, hp, hg, s1, a1, gl, few, fun H1 u1 => ?_⟩
    refine ⟨_, rfl, _, rfl, v, v3, ps, ms, ys, wd, rfl, u1.2 tabs, hp.up u1, hg, s2.up u1, a2.mono (fun _ _ r => r.tk u1.tk), gw, fun t H2 u2 ht => ?_⟩
    have u12 := u1.trans u2
    obtain ⟨c, rfl, hc⟩ := (s1.up u12).sq (K := K)
    refine ⟨_, rfl, c, xs, rfl, hc, fun D hD => lc_filt (T := T) walk_enumc (fun i => !((ls[i]?).elim true fun l => holdsB ps l (sinceM ps ms wd))) (fun i => .int (i : Nat)) (by omega) hD (fun H' u => hc.up u) (fun i x H3 H4 Qy Qn hi u3 y qy qn => ?_) (fun H3 u3 hL => ?_)⟩
    · obtain ⟨tp, x1, x2, rfl, hT, rfl, e1, e2⟩ := y
      cases e1
      obtain ⟨l, hl', hv⟩ := a1.get e2
      have hlm : l ∈ ls := List.mem_of_getElem? hl'
      have u4 : Up T H3 (upd H3 tp (.tup [.int (i : Nat), x2])) := Up.new hT
      have uu := (u12.trans u3).trans u4
      rw [hl'] at qy qn
      refine ⟨tp, _, rfl, .of upd_same, rfl, _, _, rfl, _, _, rfl, rfl, rfl, ?_⟩
      refine ⟨_, rfl, _, rfl, _, rfl, v, x2, t, ps, ms, l, sinceM ps ms wd, rfl, hp.up uu, hg, hv.tk uu.tk, gl l hlm, (u3.trans u4).t ht, since_len, fun H5 u5 => ⟨_, rfl, ?_⟩⟩
      cases hc2 : holdsB ps l (sinceM ps ms wd) with
      | true => exact iteF (qn (by show (!holdsB ps l (sinceM ps ms wd)) = false; rw [hc2] <;> rfl) _ (u4.trans u5))
      | false => exact iteT ⟨_, rfl, qy (by show (!holdsB ps l (sinceM ps ms wd)) = true; rw [hc2] <;> rfl) _ (u4.trans u5)⟩
    · refine ⟨_, _, rfl, ⟨D, rfl, .inl hL⟩, fun t2 H5 u5 ht2 => q t2 H5 ((u12.trans u3).trans (u5 T)) ?_⟩
      rw [ht2, hla] <;> rfl
theorem shp_nats {l : List Nat} : SeqAt.shaped (.tuple (l.map fun i => PyData.int (i : Nat))) = true := shp_tup fun d hd => by
  obtain ⟨c, _, rfl⟩ := List.mem_map.mp hd
  exact ⟨by simp [PyData.canLay0], by simp [PyData.depth]⟩
theorem sc55 : FnScope ["plan", "looks", "world"] ["plan", "looks", "world"] (defScope s_fits) := ⟨rfl, rfl, rfl, by decide +kernel, rfl, by decide +kernel, by decide +kernel⟩
theorem ok_fits (F : Fun K "fits" "fits" s_fits f fd) (X : Tx K mg C) (c1 : CalF P w K mg base "broken" 8 ["plan", "looks", "world"] (sp_broken T C)) : FnOk P w K mg base CX0 9 f fd ["plan", "looks", "world"] (sp_fits T C) := by
  refine F.ok sc55 (fun vs H Q E h => ?_) (fun cdv A outer s H vs Q E hr h => ?_)
  · obtain ⟨_, _, _, _, _, _, _, _, _, rfl, _⟩ := h
    rfl
  · obtain ⟨v, v2, v3, ps, ms, xs, ls, ys, wd, rfl, tabs, hp, hg, s1, a1, gl, few, s2, a2, gw, q⟩ := h
    refine ⟨_, pss_one (ps_ret (pe_cmpR (op_eqD hr.units) (pe_c c1 hr (by decide) rfl (pa_cons (pv 0) (pa_cons (pv 1) (pa_cons (pv 2) pa_nil)))) (pe_tup pa_nil) (nomark _))), ?_⟩
    refine ⟨_, rfl, _, rfl, _, rfl, v, v2, v3, ps, ms, xs, ls, ys, wd, rfl, tabs, hp, hg, s1, a1, gl, few, s2, a2, gw, fun t H1 u1 ht => ?_⟩
    refine ⟨Nat.zero_le _, fun t2 ht2 => ?_⟩
    have u2 : Up T H1 (upd H1 t2 (.tup [])) := Up.new ht2
    refine ⟨.tuple ((brokenM ps ms ls wd).map fun i => .int (i : Nat)), .tuple [], .tup (.of (u2.t ht)) (dpAll_map (fun c => .int _) _), .tup (.of upd_same) .nil, shp_nats, rfl, ?_⟩
    have z := q _ (u1.trans u2)
    have e : PyData.eqv (.tuple ((brokenM ps ms ls wd).map fun i => PyData.int (i : Nat))) (.tuple []) = (brokenM ps ms ls wd).isEmpty := by
      cases brokenM ps ms ls wd <;> rfl
    rw [e]
    exact z
theorem src_none {H : Hp} {ys : List V} {srcs : List (Option (Nat × Nat))} (h : AllV (SrcV H) ys srcs) {i : Nat} (e : srcs[i]? = some none) : ys[i]? = some .non := by
  obtain ⟨x, hx, hv⟩ := h.get' e
  rw [hx]
  exact congrArg some hv
theorem src_some {H : Hp} {ys : List V} {srcs : List (Option (Nat × Nat))} (h : AllV (SrcV H) ys srcs) {i g a : Nat} (e : srcs[i]? = some (some (g, a))) : ∃ t, ys[i]? = some (.ref t) ∧ H t = some (.tup [.int (g : Nat), .int (a : Nat)]) := by
  obtain ⟨x, hx, t, rfl, ht⟩ := h.get' e
  exact ⟨t, hx, ht⟩
theorem sc56 : FnScope ["plan", "world", "name", "place", "starts", "sources", "ats", "at"] ["plan", "world", "name"] (defScope s_chain) := ⟨rfl, rfl, rfl, by decide +kernel, rfl, by decide +kernel, by decide +kernel⟩
theorem ok_chain (F : Fun K "chain" "chain" s_chain f fd) (X : Tx K mg C) (mR : mg "reversed" = none) (c1 : CalF P w K mg base "check_world" 6 ["plan", "world"] (sp_check_world T C)) (c2 : CalF P w K mg base "spread" 5 ["plan", "world"] (sp_spread T C)) (c4 : MetF P w K mg base C "place" 4 ["self", "name"] (sp_place T C)) :
    FnOk P w K mg base CX0 7 f fd ["plan", "world", "name"] (sp_chain T C) := by
  refine F.ok sc56 (fun vs H Q E h => ?_) (fun cdv A outer s H vs Q E hr h => ?_)
  · obtain ⟨_, _, _, _, _, _, _, _, rfl, _⟩ := h
    rfl
  · obtain ⟨v, v2, z, ps, ms, xs, wd, o, rfl, tabs, hp, hg, hz, hs, ha, hw, ho, q⟩ := h
    refine' ⟨_, pss_cons ?b1 (pss_cons ?b2 (pss_cons ?b3 (pss_cons ?b4 (pss_cons ?b5 (pss_cons ?b6 (pss_one ?b7)))))), ?r⟩
    case b1 =>
      exact ps_set (i := 3) sc56.nd rfl (.inl rfl) (pe_m (pv 0) X.cl c4 hr (by decide) (pa_cons (pv 2) pa_nil))
    case b2 =>
      exact ps_expr (pe_c c1 hr (by decide) rfl (pa_cons (pv 0) (pa_cons (pv 1) pa_nil)))
    case b3 =>
      exact ps_asg (pe_c c2 hr (by decide) rfl (pa_cons (pv 0) (pa_cons (pv 1) pa_nil))) (pg_tup (by rfl) (pgs_cons (pg_name (i := 4) sc56.nd rfl (.inl rfl)) (pgs_cons (pg_name (i := 5) sc56.nd rfl (.inl rfl)) pgs_nil)))
    case b4 =>
      exact ps_if (pt_cmpR op_isN (pe_ix ix_list (pv 4) (pv 3) (fun _ _ => rfl)) pe_non (nomark _)) (pss_one (ps_ret pe_non)) pss_nil
    case b5 =>
      exact ps_set (i := 6) sc56.nd rfl (.inl rfl) (pe_lst pa_nil)
    case b6 =>
      exact ps_while PassesOwn.never (pt_cmpR op_notN (pe_ix ix_list (pv 5) (pv 3) (fun _ _ => rfl)) pe_non (nomark _)) (pss_cons (ps_asg (pe_ix ix_list (pv 5) (pv 3) (fun _ _ => rfl)) (pg_tup (by rfl) (pgs_cons (pg_name (i := 3) sc56.nd rfl (.inl rfl)) (pgs_cons (pg_name (i := 7) sc56.nd rfl (.inl rfl)) pgs_nil))))
        (pss_one (ps_expr (pe_bm PySem.F.plainAttrs_list PySem.F.slot_list_append PySem.F.type_list_append mt_append (pv 6) (pa_cons (pv 7) pa_nil)))))
    case b7 =>
      exact ps_ret (RT.pe_tupRev rfl (by rfl) X.n_tuple (by rfl) mR (pv 6))
    case r =>
      obtain ⟨a, dx, tp, tm, ps', ms', rfl, hi, hxp, ap, hym, am⟩ := id hp
      refine ⟨_, rfl, a, dx, _, rfl, hi, pf_no _ _ (by decide +kernel) (by decide +kernel), _, rfl, _, ps, ms, z, pl ps z, rfl, hp, hg, pl_at hz, fun H1 u1 => ?_⟩
      refine ⟨_, rfl, _, rfl, _, v2, ps, ms, xs, wd, rfl, hp.up u1, hg, hs.up u1, ha.mono (fun _ _ r => r.tk u1.tk), hw, fun H2 u2 => ?_⟩
      have u12 := u1.trans u2
      refine ⟨_, rfl, _, rfl, _, v2, ps, ms, xs, wd, rfl, u12.2 tabs, hp.up u12, hg, hs.up u12, ha.mono (fun _ _ r => r.tk u12.tk), hw, fun t l1 l2 ys H3 u3 ht h1 h2 hsr => ?_⟩
      have u13 := u12.trans u3
      refine ⟨t, _, rfl, .of ht, rfl, _, _, rfl, _, _, rfl, rfl, ?_⟩
      refine ⟨_, rfl, _, rfl, l1, _, (pl ps z : Nat), optV o, rfl, rfl, .of h1, atI_nat (by rw [List.getElem?_map, ho] <;> rfl), ?_⟩
      rcases q with ⟨rfl, q⟩ | ⟨hne, ats, hpa, hal, q⟩
      · exact ⟨rfl, true, rfl, iteT (q H3 u13)⟩
      · have e0 : decide (optV o = .non) = false := by
          cases o with
          | none => exact absurd rfl hne
          | some _ => rfl
        refine ⟨rfl, false, by rw [e0], iteF ⟨Nat.zero_le _, fun la hla => ?_⟩⟩
        have u4 : Up T H3 (upd H3 la (.lst [])) := Up.new hla
        refine ⟨fun k σ' H' => ∃ (i : Nat) (r dn : List Nat) (o7 : Option V), k = r.length ∧ σ' = [some (.ref a), some v2, some (.str z), some (.int (i : Nat)), some (.ref l1), some (.ref l2), some (.ref la), o7] ∧ Up T H3 H' ∧ H' la = some (.lst (dn.map fun i => V.int (i : Nat))) ∧ Path (spreadM ps ms wd).2 i r ∧ dn ++ r = ats,
          ⟨_, pl ps z, ats, [], none, rfl, rfl, u4, upd_same, hpa, rfl⟩, ?_⟩
        rintro kk σ' H' ⟨i, r, dn, o7, rfl, rfl, u, hl, hpr, he⟩
        cases hpr with
        | own hn =>
          have hy := src_none hsr hn
          refine ⟨_, rfl, _, rfl, l2, ys, (i : Nat), .non, rfl, rfl, .of (u.l h2), atI_nat hy, rfl, false, rfl, iteF ?_⟩
          refine ⟨_, rfl, la, _, rfl, .of hl, fun q2 hq2 => q q2 _ ((u13.trans u).trans (Up.new hq2)) ?_⟩
          rw [upd_same, ← he, List.append_nil]
        | by_ hn hr2 =>
          rename_i g at_ r2
          obtain ⟨ts, hy, hts⟩ := src_some hsr hn
          refine ⟨_, rfl, _, rfl, l2, ys, (i : Nat), .ref ts, rfl, rfl, .of (u.l h2), atI_nat hy, rfl, true, rfl, iteT ?_⟩
          refine ⟨fun σ2 H2 => ∃ (i : Nat) (r dn : List Nat) (o7 : Option V), r2.length = r.length ∧ σ2 = [some (.ref a), some v2, some (.str z), some (.int (i : Nat)), some (.ref l1), some (.ref l2), some (.ref la), o7] ∧ Up T H3 H2 ∧ H2 la = some (.lst (dn.map fun i => V.int (i : Nat))) ∧ Path (spreadM ps ms wd).2 i r ∧ dn ++ r = ats, fun σ2 H2 h => ⟨r2.length, by simp, h⟩, ?_⟩
          refine ⟨_, rfl, _, rfl, l2, ys, (i : Nat), .ref ts, rfl, rfl, .of (u.l h2), atI_nat hy, ts, _, rfl, .of (u.t hts), rfl, _, _, rfl, _, _, rfl, rfl, ?_⟩
          have hdl : dn.length ≤ 1000 := by
            have := congrArg List.length he
            rw [List.length_append] at this
            omega
          have hsz : sizeLine = 16777216 := sizeLine_eq
          refine ⟨_, rfl, .inl ⟨rfl, _, SqL.of hl⟩, _, rfl, la, _, _, rfl, rfl, hl, by rw [List.length_map]; omega, ?_⟩
          refine ⟨g, r2, dn ++ [at_], _, rfl, rfl, u.mutL hla hl, ?_, hr2, by rw [← he]; simp⟩
          rw [upd_same, List.map_append] <;> rfl
end
end FB

set_option Elab.async false
set_option maxRecDepth 100000
set_option maxHeartbeats 16000000
set_option linter.unusedVariables false
/-! the box of draws: a great number and a stirred one -/
namespace FB
open PySem L2

abbrev s_seed : Stmt := topS 55
abbrev s_choose : Stmt := topS 56
abbrev s_mixed : Stmt := topS 57
abbrev s_law : Stmt := topS 58
theorem erase_perm' {α : Type} : ∀ (l : List α) (i : Nat) (h : i < l.length), (l[i] :: l.eraseIdx i).Perm l
  | _ :: _, 0, _ => .refl _
  | a :: r, i + 1, h => by
    have hi : i < r.length := by simpa using h
    have ih := erase_perm' r i hi
    exact (List.Perm.swap a r[i] (r.eraseIdx i)).trans (ih.cons a)
def BoxAt (H : Hp) (p : Addr) : Prop := ∃ g m : Int, H p = some (.lst [.int g, .int m]) ∧ 0 ≤ g ∧ 0 ≤ m ∧ m ≤ 2147483629
def rem1 (p : Addr) (H : Hp) : Hp := fun b => if b = p then none else H b
theorem rem1_p {p : Addr} {H : Hp} : rem1 p H p = none := if_pos rfl
theorem rem1_ne {p b : Addr} {H : Hp} (h : b ≠ p) : rem1 p H b = H b := if_neg h
/-- all but the box stays -/
def UpX (T : Tb) (p : Addr) (H H' : Hp) : Prop := Up T (rem1 p H) H'
theorem rem1_tabs {T : Tb} {H : Hp} {p : Addr} {xs : List V} (hp : H p = some (.lst xs)) (t : LamX.Tabs T H) : LamX.Tabs T (rem1 p H) := by
  intro q hq
  obtain ⟨ps, a1, a2, a3⟩ := t q hq
  refine ⟨ps, by rw [rem1_ne (fun z => by rw [z, hp] at a1; cases a1)]; exact a1, a2, fun pos cv hc => ?_⟩
  obtain ⟨c, e1, e2⟩ := a3 pos cv hc
  refine ⟨c, e1, ?_⟩
  rw [rem1_ne (fun z => by rw [z, hp] at e2; unfold LamX.CodeO at e2; cases e2)]
  exact e2
theorem UpX.refl {T : Tb} {H : Hp} {p : Addr} {xs : List V} (hp : H p = some (.lst xs)) : UpX T p H H := by
  refine ⟨fun b o e n => ?_, fun t q hq => ?_⟩
  · by_cases hb : b = p
    · rw [hb, rem1_p] at e
      cases e
    · rw [rem1_ne hb] at e
      exact e
  · obtain ⟨ps, a1, a2, a3⟩ := t q hq
    have keep : ∀ {b o}, rem1 p H b = some o → H b = some o := fun {b o} e => by
      by_cases hb : b = p
      · rw [hb, rem1_p] at e
        cases e
      · rw [rem1_ne hb] at e
        exact e
    refine ⟨ps, keep a1, a2, fun pos cv hc => ?_⟩
    obtain ⟨c, e1, e2⟩ := a3 pos cv hc
    exact ⟨c, e1, keep e2⟩
theorem UpX.up {T : Tb} {H H1 H2 : Hp} {p : Addr} (a : UpX T p H H1) (b : Up T H1 H2) : UpX T p H H2 := Up.trans a b
theorem UpX.trans {T : Tb} {H H1 H2 : Hp} {p : Addr} {xs : List V} (a : UpX T p H H1) (hp : H1 p = some (.lst xs)) (b : UpX T p H1 H2) : UpX T p H H2 := by
  refine ⟨fun c o e n => ?_, fun t => b.2 (rem1_tabs hp (a.2 t))⟩
  have hc : c ≠ p := fun z => by
    rw [z, rem1_p] at e
    cases e
  exact b.1 c o (by rw [rem1_ne hc]; exact a.1 c o e n) n
theorem UpX.low {T : Tb} {H0 H1 H2 : Hp} {p : Addr} {xs : List V} (a : Up T H0 H1) (h0 : H0 p = none) (hp : H1 p = some (.lst xs)) (b : UpX T p H1 H2) : Up T H0 H2 :=
  ⟨fun c o e n => b.1 c o (by rw [rem1_ne (ne_of_none e h0)]; exact a.1 c o e n) n, fun t => b.2 (rem1_tabs hp (a.2 t))⟩
theorem UpX.of {T : Tb} {H H1 : Hp} {p b : Addr} {o : HO} (a : UpX T p H H1) (h1 : b ≠ p) (e : H b = some o) (n : ∀ ps, o ≠ .tbl ps) : H1 b = some o := a.1 b o (by rw [rem1_ne h1]; exact e) n
theorem UpX.tabs {T : Tb} {H H1 : Hp} {p : Addr} {xs : List V} (a : UpX T p H H1) (hp : H p = some (.lst xs)) (t : LamX.Tabs T H) : LamX.Tabs T H1 := a.2 (rem1_tabs hp t)
theorem UpX.mut {T : Tb} {H H1 : Hp} {p : Addr} {xs : List V} {u : HO} (a : UpX T p H H1) (e : H1 p = some (.lst xs)) : UpX T p H (upd H1 p u) := Up.mutL a rem1_p e
theorem BoxAt.up {T : Tb} {H H' : Hp} {p : Addr} (h : BoxAt H p) (e : Up T H H') : BoxAt H' p := by
  obtain ⟨g, m, h1, h2⟩ := h
  exact ⟨g, m, e.l h1, h2⟩
section
variable (T : Tb)
def sp_choose : Sp := fun vs H Q _ => ∃ p n, vs = [.ref p, .int n] ∧ 0 < n ∧ n < 1073741824 ∧ BoxAt H p ∧ ∀ d H', 0 ≤ d → d < n → UpX T p H H' → BoxAt H' p → Q (.int d) H'
end
section
variable {P : Program} {w : World} {K : PySem.W.Frag} {mg : Str → Option Value} {base : Heap} {T : Tb} {C f : Addr} {fd : FuncData}
theorem sc60 : FnScope ["_law_box", "_law_many", "_law_digit", "_law_raw"] ["_law_box", "_law_many"] (defScope s_choose) := ⟨rfl, rfl, rfl, by decide +kernel, rfl, by decide +kernel, by decide +kernel⟩
theorem ok_choose (F : Fun K "_law_choose" "_law_choose" s_choose f fd) (X : Tx K mg C) : FnOk P w K mg base CX0 1 f fd ["_law_box", "_law_many"] (sp_choose T) := by
  refine F.ok sc60 (fun vs H Q E h => ?_) (fun cdv A outer s H vs Q E hr h => ?_)
  · obtain ⟨_, _, rfl, _⟩ := h
    rfl
  · obtain ⟨p, n, rfl, n0, n1, ⟨g, m, hp, g0, m0, m1⟩, k⟩ := h
    refine' ⟨_, pss_cons ?s1 (pss_cons ?s2 (pss_cons ?s3 (pss_one ?s4))), ?r⟩
    case s1 =>
      exact ps_if (pt_cmpR op_gt (pe_ix ix_list (pv 0) pe_int (fun _ _ => rfl)) pe_int (nomark _))
        (pss_cons (ps_set (i := 2) sc60.nd rfl (.inl rfl) (pe_op op_mod (pe_callTy call_int1 (by rfl) X.n_int (by decide +kernel) (pa_cons (pe_ix ix_list (pv 0) pe_int (fun _ _ => rfl)) pa_nil)) (pv 1)))
        (pss_cons (ps_asg (pe_op op_fdivN (pe_ix ix_list (pv 0) pe_int (fun _ _ => rfl)) (pv 1)) (pg_sub (pv 0) pe_int set_list)) (pss_one (ps_ret (pv 2))))) pss_nil
    case s2 =>
      exact ps_set (i := 3) sc60.nd rfl (.inl rfl) (pe_op op_mod (pe_callTy call_int1 (by rfl) X.n_int (by decide +kernel) (pa_cons (pe_op op_add (pe_op op_mul (pe_ix ix_list (pv 0) pe_int (fun _ _ => rfl)) pe_int) pe_int) pa_nil)) pe_int)
    case s3 =>
      exact ps_asg (pe_op op_add (pe_op op_mod (pe_callTy call_int1 (by rfl) X.n_int (by decide +kernel) (pa_cons (pe_op op_add (pe_op op_mul (pv 3) pe_int) pe_int) pa_nil)) pe_int) pe_int) (pg_sub (pv 0) pe_int set_list)
    case s4 =>
      exact ps_ret (pe_op op_mod (pe_callTy call_int1 (by rfl) X.n_int (by decide +kernel) (pa_cons (pe_op op_fdiv (pe_op op_add (pe_op op_mul (pv 3) pe_int) (pe_ix ix_list (pv 0) pe_int (fun _ _ => rfl))) pe_int) pa_nil)) (pv 1))
    case r =>
      refine ⟨_, rfl, p, _, 0, .int g, rfl, rfl, .of hp, rfl, g, 0, rfl, rfl, _, rfl, ?_⟩
      by_cases hg : 0 < g
      · rw [decide_eq_true hg]
        refine iteT ⟨_, rfl, p, _, 0, .int g, rfl, rfl, .of hp, rfl, .inl ⟨g, rfl, _, rfl, g, n, rfl, rfl, n0, ?_⟩⟩
        refine ⟨_, rfl, p, _, 0, .int g, rfl, rfl, .of hp, rfl, _, rfl, g, n, rfl, rfl, ⟨by omega, by omega⟩, _, rfl, p, _, 0, 0, rfl, rfl, hp, rfl, _, rfl, ?_⟩
        exact k _ _ (Int.emod_nonneg _ (by omega)) (Int.emod_lt_of_pos _ n0) ((UpX.refl hp).mut hp) ⟨g.fdiv n, m, upd_same, Int.fdiv_nonneg g0 (by omega), m0, m1⟩
      · rw [decide_eq_false hg]
        refine iteF ?_
        refine ⟨_, rfl, p, _, 1, .int m, rfl, rfl, .of hp, rfl, m, _, rfl, rfl, .inl ⟨by omega, by omega⟩, _, _, rfl, rfl, .inl ⟨_, rfl, _, 2147483563, rfl, rfl, by show (0 : Int) < 2147483563; decide, ?_⟩⟩
        have r10 : 0 ≤ ((m * 41077 + 71) % 2147483563) := Int.emod_nonneg _ (by decide)
        have r11 : ((m * 41077 + 71) % 2147483563) < 2147483563 := Int.emod_lt_of_pos _ (by decide)
        refine ⟨_, rfl, ((m * 41077 + 71) % 2147483563), _, rfl, rfl, .inl ⟨by omega, by omega⟩, ((m * 41077 + 71) % 2147483563) * 39373, 5209, rfl, rfl, .inl ⟨_, rfl, ((m * 41077 + 71) % 2147483563) * 39373 + 5209, 2147483629, rfl, rfl, by show (0 : Int) < 2147483629; decide, (((m * 41077 + 71) % 2147483563) * 39373 + 5209) % 2147483629, 1, rfl, rfl, ?_⟩⟩
        have r20 : 0 ≤ ((((m * 41077 + 71) % 2147483563) * 39373 + 5209) % 2147483629 + 1) := by
          have := Int.emod_nonneg (((m * 41077 + 71) % 2147483563) * 39373 + 5209) (show (2147483629 : Int) ≠ 0 by decide)
          omega
        have r21 : ((((m * 41077 + 71) % 2147483563) * 39373 + 5209) % 2147483629 + 1) ≤ 2147483629 := by
          have := Int.emod_lt_of_pos (((m * 41077 + 71) % 2147483563) * 39373 + 5209) (show (0 : Int) < 2147483629 by decide)
          omega
        refine ⟨_, rfl, p, _, 1, 1, rfl, rfl, hp, rfl, ?_⟩
        have hp2 : (upd H p (.lst [.int g, .int ((((m * 41077 + 71) % 2147483563) * 39373 + 5209) % 2147483629 + 1)])) p = some (.lst [.int g, .int ((((m * 41077 + 71) % 2147483563) * 39373 + 5209) % 2147483629 + 1)]) := upd_same
        refine ⟨_, rfl, ((m * 41077 + 71) % 2147483563), 2147483647, rfl, rfl, .inl ⟨by omega, by omega⟩, _, rfl, p, _, 1, .int ((((m * 41077 + 71) % 2147483563) * 39373 + 5209) % 2147483629 + 1), rfl, rfl, .of hp2, rfl, ((m * 41077 + 71) % 2147483563) * 2147483647, ((((m * 41077 + 71) % 2147483563) * 39373 + 5209) % 2147483629 + 1), rfl, rfl, ((m * 41077 + 71) % 2147483563) * 2147483647 + ((((m * 41077 + 71) % 2147483563) * 39373 + 5209) % 2147483629 + 1), 8191, rfl, rfl, ⟨by decide, by decide⟩, .inl ⟨_, rfl, _, rfl, (((m * 41077 + 71) % 2147483563) * 2147483647 + ((((m * 41077 + 71) % 2147483563) * 39373 + 5209) % 2147483629 + 1)) / 8191, n, rfl, rfl, n0, ?_⟩⟩
        exact k _ _ (Int.emod_nonneg _ (by omega)) (Int.emod_lt_of_pos _ n0) ((UpX.refl hp).mut hp) ⟨g, ((((m * 41077 + 71) % 2147483563) * 39373 + 5209) % 2147483629 + 1), hp2, g0, r20, r21⟩
end
theorem shp_strs' {ns : List Str} (h : ∀ z ∈ ns, PyData.strOk z = true) : SeqAt.shaped (.list (ns.map PyData.str)) = true := shp_list fun d hd => by
  obtain ⟨c, hc, rfl⟩ := List.mem_map.mp hd
  exact ⟨by simp [PyData.canLay0, h c hc], by simp [PyData.depth]⟩
section
variable (T : Tb)
def sp_mixed : Sp := fun vs H Q _ => ∃ (p s : Addr) (xs : List V), vs = [.ref p, .ref s] ∧ BoxAt H p ∧ s ≠ p ∧ H s = some (.lst xs) ∧ xs.length ≤ 1000 ∧ ∀ (ys : List V) (q : Addr) (H' : Hp), ys.Perm xs → UpX T p H H' → BoxAt H' p → H' q = some (.lst ys) → Q (.ref q) H'
def sp_seed (K : PySem.W.Frag) : Sp := fun vs H Q _ => ∃ (a : Addr) (k : Nat) (ns : List Int), vs = [.ref a, .int (k : Nat)] ∧ k < 1000000 ∧ SqL K H a (ns.map V.int) ∧ ns.length ≤ 63 ∧ ∀ p H', H p = none → Up T H H' → BoxAt H' p → Q (.ref p) H'
end
section
variable {P : Program} {w : World} {K : PySem.W.Frag} {mg : Str → Option Value} {base : Heap} {T : Tb} {C f : Addr} {fd : FuncData}
theorem sc61 : FnScope ["_law_box", "_law_some", "_law_left", "_law_found", "_law_turn"] ["_law_box", "_law_some"] (defScope s_mixed) := ⟨rfl, rfl, rfl, by decide +kernel, rfl, by decide +kernel, by decide +kernel⟩
theorem ok_mixed (F : Fun K "_law_mixed" "_law_mixed" s_mixed f fd) (X : Tx K mg C) (c1 : CalF P w K mg base "_law_choose" 1 ["_law_box", "_law_many"] (sp_choose T)) : FnOk P w K mg base CX0 2 f fd ["_law_box", "_law_some"] (sp_mixed T) := by
  refine F.ok sc61 (fun vs H Q E h => ?_) (fun cdv A outer s H vs Q E hr h => ?_)
  · obtain ⟨_, _, _, rfl, _⟩ := h
    rfl
  · obtain ⟨p, s', ns, rfl, hD, n1, hs, hlen, k⟩ := h
    refine' ⟨_, pss_cons ?s1 (pss_cons ?s2 (pss_one ?s3)), ?r⟩
    case s1 =>
      exact ps_par (i := 2) (j := 3) rfl sc61.nd rfl rfl (by decide) rfl rfl (pa_cons (pe_callTy call_listS (by rfl) X.n_list (by decide +kernel) (pa_cons (pv 1) pa_nil)) (pa_cons (pe_lst pa_nil) pa_nil)) (by rfl)
    case s2 =>
      exact ps_for PassesOwn.never rfl (pi_range1 (by rfl) X.n_range (pa_cons (pe_callB call_len (by rfl) X.n_len PySem.boot_len (pa_cons (pv 1) pa_nil)) pa_nil)) (pg_name (i := 4) sc61.nd rfl (.inl rfl))
        (pss_one (ps_expr (pe_bm PySem.F.plainAttrs_list PySem.F.slot_list_append PySem.F.type_list_append mt_append (pv 3) (pa_cons (pe_bm PySem.F.plainAttrs_list PySem.F.slot_list_pop PySem.F.type_list_pop mt_popAt (pv 2)
          (pa_cons (pe_c c1 hr (by decide) rfl (pa_cons (pv 0) (pa_cons (pe_callB call_len (by rfl) X.n_len PySem.boot_len (pa_cons (pv 2) pa_nil)) pa_nil))) pa_nil)) pa_nil))))
    case s3 => exact ps_ret (pv 3)
    case r =>
      obtain ⟨g0, m0, hp, _⟩ := id hD
      refine ⟨_, rfl, _, _, rfl, ⟨s', rfl, .inl hs⟩, fun lo hlo => ⟨Nat.zero_le _, fun lf hlf => ⟨_, _, rfl, ?_⟩⟩⟩
      have u1 : Up T H (upd H lo (.lst ns)) := Up.new hlo
      have u2 := u1.trans (Up.new (o := .lst []) hlf)
      have nlf : H lf = none := NdefX.upd_none hlf
      have nof : lo ≠ lf := ne_of_none (upd_same (H := H) (a := lo) (o := .lst ns)) hlf
      have plo : p ≠ lo := ne_of_none hp hlo
      have plf : p ≠ lf := ne_of_none hp nlf
      have rlo : rem1 p H lo = none := by
        rw [rem1_ne plo.symm]
        exact hlo
      have rlf : rem1 p H lf = none := by
        rw [rem1_ne plf.symm]
        exact nlf
      have b1 : UpX T p H (upd (upd H lo (.lst ns)) lf (.lst [])) := (UpX.refl hp).up u2
      refine ⟨_, rfl, _, ns.length, rfl, .inl ⟨_, .of (u2.l hs), rfl⟩, (ns.length : Nat), rfl, by omega, by omega, ?_⟩
      rw [show ((ns.length : Int)).toNat = ns.length from rfl]
      refine for_range (n := ns.length) (fun i σ' H' => ∃ (os fs : List V) (o4 : Option V), os.length + i = ns.length ∧ σ' = [some (.ref p), some (.ref s'), some (.ref lo), some (.ref lf), o4] ∧ UpX T p H H' ∧ BoxAt H' p ∧ H' lo = some (.lst os) ∧ H' lf = some (.lst fs) ∧ (fs ++ os).Perm ns)
        ⟨ns, [], none, rfl, rfl, b1, hD.up u2, (Up.new (T := T) hlf).l upd_same, upd_same, by simp⟩ (fun i σ' H' hi p0 => ?_) (fun σ' H' p0 => ?_)
      · obtain ⟨os, fs, o4, hol, rfl, u, hD', ho, hf, hperm⟩ := p0
        have hpos : 0 < os.length := by omega
        have hsz : sizeLine = 16777216 := sizeLine_eq
        obtain ⟨g1, m1, hp1, _⟩ := id hD'
        refine ⟨_, rfl, .inl ⟨rfl, _, .of hf⟩, _, rfl, .inl ⟨rfl, _, .of ho⟩, _, rfl, _, rfl, _, os.length, rfl, .inl ⟨_, .of ho, rfl⟩, p, (os.length : Nat), rfl, by omega, by omega, hD', fun d H2 d0 d1 u4 hD2 => ?_⟩
        obtain ⟨j, rfl⟩ : ∃ j : Nat, d = (j : Int) := ⟨d.toNat, by omega⟩
        have hj : j < os.length := by omega
        have ho2 := u4.of plo.symm ho fun _ z => nomatch z
        have hf2 := u4.of plf.symm hf fun _ z => nomatch z
        have u5 : UpX T p H H2 := u.trans hp1 u4
        refine ⟨lo, _, (j : Nat), j, os[j], rfl, rfl, ho2, by omega, by omega, ?_, ?_, ?_⟩
        · exact (ixN_seq (ixN_n hj)).1
        · exact List.getElem?_eq_getElem hj
        have hf3 : (upd H2 lo (.lst (os.eraseIdx j))) lf = some (.lst fs) := by
          rw [upd_ne nof.symm]
          exact hf2
        have fl : fs.length ≤ 1000 := by
          have := hperm.length_eq
          rw [List.length_append] at this
          omega
        refine ⟨lf, _, _, rfl, rfl, hf3, by omega, ?_⟩
        have u6 : UpX T p H (upd H2 lo (.lst (os.eraseIdx j))) := Up.mutL u5 rlo ho2
        have u7 : UpX T p H (upd (upd H2 lo (.lst (os.eraseIdx j))) lf (.lst (fs ++ [os[j]]))) := Up.mutL u6 rlf hf3
        obtain ⟨g2, m2, e1, e2⟩ := hD2
        refine ⟨os.eraseIdx j, fs ++ [os[j]], _, ?_, rfl, u7, ⟨g2, m2, ?_, e2⟩, ?_, upd_same, ?_⟩
        · rw [List.length_eraseIdx, if_pos hj]
          omega
        · rw [upd_ne plf, upd_ne plo]
          exact e1
        · rw [upd_ne nof, upd_same]
        · refine List.Perm.trans ?_ hperm
          rw [List.append_assoc]
          exact List.Perm.append_left fs (erase_perm' os j hj)
      · obtain ⟨os, fs, o4, hol, rfl, u, hD', ho, hf, hperm⟩ := p0
        have e : os = [] := List.eq_nil_of_length_eq_zero (by omega)
        subst e
        exact ⟨_, rfl, k fs lf _ (by simpa using hperm) u hD' hf⟩
theorem sc62 : FnScope ["_law_script", "_law_k", "_law_cell", "_law_great"] ["_law_script", "_law_k"] (defScope s_seed) := ⟨rfl, rfl, rfl, by decide +kernel, rfl, by decide +kernel, by decide +kernel⟩
theorem ok_seed (F : Fun K "_law_seed" "_law_seed" s_seed f fd) (X : Tx K mg C) : FnOk P w K mg base CX0 1 f fd ["_law_script", "_law_k"] (sp_seed T K) := by
  refine F.ok sc62 (fun vs H Q E h => ?_) (fun cdv A outer s H vs Q E hr h => ?_)
  · obtain ⟨_, _, _, rfl, _⟩ := h
    rfl
  · obtain ⟨a, k, ns, rfl, hk, hs, hl, q⟩ := h
    refine' ⟨_, pss_cons ?s1 (Evl.pss_cut ?s2 (pss_cons ?s3 (pss_one ?s4))), ?r⟩
    case s1 =>
      exact ps_set (i := 2) sc62.nd rfl (.inl rfl) (pe_op op_add (pe_op op_mul pe_int (pv 1)) pe_int)
    case s2 =>
      exact ps_if (pt_cmpR op_lt (pv 1) (pe_callB call_len (by rfl) X.n_len PySem.boot_len (pa_cons (pv 0) pa_nil)) (nomark _)) (pss_one (ps_set (i := 2) sc62.nd rfl (.inl rfl) (pe_callB call_abs (by rfl) X.n_abs (by decide +kernel) (pa_cons (pe_ix ix_list (pv 0) (pv 1) (fun _ _ => rfl)) pa_nil))))
        (pss_one (ps_if (pt_cmpR op_gt (pe_callB call_len (by rfl) X.n_len PySem.boot_len (pa_cons (pv 0) pa_nil)) pe_int (nomark _)) (pss_one (ps_set (i := 2) sc62.nd rfl (.inl rfl) (pe_op op_add (pv 2) (pe_op op_mul (pe_op op_mod (pe_callTy call_int1 (by rfl) X.n_int (by decide +kernel) (pa_cons (pe_callB call_abs (by rfl) X.n_abs (by decide +kernel) (pa_cons (pe_ix ix_list (pv 0) (pe_op op_mod (pe_callTy call_int1 (by rfl) X.n_int (by decide +kernel) (pa_cons (pv 1) pa_nil)) (pe_callB call_len (by rfl) X.n_len PySem.boot_len (pa_cons (pv 0) pa_nil))) (fun _ _ => rfl)) pa_nil)) pa_nil)) pe_int) pe_int)))) pss_nil))
    case s3 =>
      exact ps_set (i := 3) sc62.nd rfl (.inl rfl) (pe_ifExp (pt_cmpR op_ge (pv 2) (pe_op op_pow pe_int pe_int) (nomark _)) (pv 2) pe_int)
    case s4 =>
      exact ps_ret (pe_lst (pa_cons (pv 3) (pa_cons (pe_op op_add (pe_op op_mod (pe_callTy call_int1 (by rfl) X.n_int (by decide +kernel) (pa_cons (pe_op op_add (pe_op op_mul (pe_op op_mod (pe_callTy call_int1 (by rfl) X.n_int (by decide +kernel) (pa_cons (pv 2) pa_nil)) pe_int) pe_int) (pe_op op_mul pe_int (pv 1))) pa_nil)) pe_int) pe_int) pa_nil)))
    case r =>
      refine ⟨_, rfl, _, (k : Int), rfl, rfl, .inl ⟨by decide, by decide⟩, _, _, rfl, rfl, ?_⟩
      refine ⟨fun σ' H' => ∃ c : Int, 0 ≤ c ∧ σ' = [some (.ref a), some (.int (k : Nat)), some (.int c), none] ∧ H' = H, ?_, ?_⟩
      · refine ⟨_, rfl, _, rfl, _, ns.length, rfl, .inl ⟨_, hs, by rw [List.length_map]⟩, (k : Int), (ns.length : Int), rfl, rfl, _, rfl, ?_⟩
        by_cases hc : (k : Int) < (ns.length : Int)
        · rw [decide_eq_true hc]
          have hk2 : k < ns.length := by omega
          have e1 : (ns.map V.int)[k]? = some (.int ns[k]) := by
            rw [List.getElem?_map, List.getElem?_eq_getElem hk2] <;> rfl
          refine iteT ⟨_, rfl, _, rfl, a, _, (k : Nat), _, rfl, rfl, hs, atI_nat e1, ns[k], rfl, ?_⟩
          exact ⟨_, by show (0 : Int) ≤ (if ns[k] < 0 then -ns[k] else ns[k]); split <;> omega, rfl, rfl⟩
        · rw [decide_eq_false hc]
          refine iteF ⟨_, rfl, _, ns.length, rfl, .inl ⟨_, hs, by rw [List.length_map]⟩, (ns.length : Int), 0, rfl, rfl, _, rfl, ?_⟩
          by_cases h0 : (0 : Int) < (ns.length : Int)
          · rw [decide_eq_true h0]
            have hm0 := Int.emod_nonneg (k : Int) (show (ns.length : Int) ≠ 0 by omega)
            have hm1 := Int.emod_lt_of_pos (k : Int) h0
            obtain ⟨j, hj⟩ : ∃ j : Nat, (k : Int) % (ns.length : Int) = (j : Int) := ⟨((k : Int) % (ns.length : Int)).toNat, by omega⟩
            have hj2 : j < ns.length := by omega
            have e1 : (ns.map V.int)[j]? = some (.int ns[j]) := by
              rw [List.getElem?_map, List.getElem?_eq_getElem hj2] <;> rfl
            have ea : atI (ns.map V.int) ((k : Int) % (ns.length : Int)) = some (.int ns[j]) := by
              rw [hj]
              exact atI_nat e1
            refine iteT ⟨_, rfl, _, rfl, _, rfl, .inl ⟨_, rfl, _, rfl, _, ns.length, rfl, .inl ⟨_, hs, by rw [List.length_map]⟩, (k : Int), (ns.length : Int), rfl, rfl, h0, a, _, (k : Int) % (ns.length : Int), _, rfl, rfl, hs, ea, ns[j], rfl, ?_⟩⟩
            generalize hz : (if ns[j] < 0 then -ns[j] else ns[j]) = zz
            refine .inl ⟨_, rfl, zz, 2147483629, rfl, rfl, by show (0 : Int) < 2147483629; decide, zz % 2147483629, _, rfl, rfl, .inr ⟨by decide, by decide⟩, _, _, rfl, rfl, ?_⟩
            exact ⟨_, by have := Int.emod_nonneg zz (show (2147483629 : Int) ≠ 0 by decide); omega, rfl, rfl⟩
          · rw [decide_eq_false h0]
            exact iteF ⟨_, by omega, rfl, rfl⟩
      · rintro σ' H' ⟨c, hc0, rfl, rfl⟩
        have b0 := Int.emod_nonneg (c % 2147483629 * 48271 + 39119 * (k : Int)) (show (2147483629 : Int) ≠ 0 by decide)
        have b1 := Int.emod_lt_of_pos (c % 2147483629 * 48271 + 39119 * (k : Int)) (show (0 : Int) < 2147483629 by decide)
        refine ⟨_, rfl, 10, 18, rfl, rfl, ⟨by decide, by decide, by decide⟩, c, _, rfl, rfl, _, rfl, ?_⟩
        by_cases hb : (10 : Int) ^ (18 : Int).toNat ≤ c
        · rw [decide_eq_true hb]
          refine iteT ⟨_, rfl, ?_⟩
          exact ⟨_, rfl, _, rfl, .inl ⟨_, rfl, c, 2147483629, rfl, rfl, by show (0 : Int) < 2147483629; decide, _, 48271, rfl, rfl, .inr ⟨by decide, by decide⟩, _, rfl, 39119, (k : Int), rfl, rfl, .inl ⟨by decide, by decide⟩, _, _, rfl, rfl, .inl ⟨_, rfl, _, 2147483629, rfl, rfl, by show (0 : Int) < 2147483629; decide, _, 1, rfl, rfl, by show 2 ≤ sizeLine; decide, fun p hp => q p _ hp (Up.new hp) ⟨c, _, upd_same, hc0, by omega, by omega⟩⟩⟩⟩
        · rw [decide_eq_false hb]
          refine iteF ?_
          exact ⟨_, rfl, _, rfl, .inl ⟨_, rfl, c, 2147483629, rfl, rfl, by show (0 : Int) < 2147483629; decide, _, 48271, rfl, rfl, .inr ⟨by decide, by decide⟩, _, rfl, 39119, (k : Int), rfl, rfl, .inl ⟨by decide, by decide⟩, _, _, rfl, rfl, .inl ⟨_, rfl, _, 2147483629, rfl, rfl, by show (0 : Int) < 2147483629; decide, _, 1, rfl, rfl, by show 2 ≤ sizeLine; decide, fun p hp => q p _ hp (Up.new hp) ⟨0, _, upd_same, Int.le_refl 0, by omega, by omega⟩⟩⟩⟩
end
end FB

set_option Elab.async false
set_option maxRecDepth 100000
set_option maxHeartbeats 16000000
/-! data that displays make -/
namespace FB
open PySem L2

mutual
inductive Da (H : Hp) : V → PyData → Prop
  | non : Da H .non .none
  | bl (b : Bool) : Da H (.bl b) (.bool b)
  | int (i : Int) : Da H (.int i) (.int i)
  | str (z : Str) : Da H (.str z) (.str z)
  | tup {a : Addr} {xs : List V} {ds : List PyData} : H a = some (.tup xs) → DaAll H xs ds → Da H (.ref a) (.tuple ds)
  | lst {a : Addr} {xs : List V} {ds : List PyData} : H a = some (.lst xs) → DaAll H xs ds → Da H (.ref a) (.list ds)
inductive DaAll (H : Hp) : List V → List PyData → Prop
  | nil : DaAll H [] []
  | cons {v : V} {vs : List V} {d : PyData} {ds : List PyData} : Da H v d → DaAll H vs ds → DaAll H (v :: vs) (d :: ds)
end
mutual
theorem Da.up {T : Tb} {H H' : Hp} (e : Up T H H') : ∀ {v : V} {d : PyData}, Da H v d → Da H' v d
  | _, _, .non => .non
  | _, _, .bl b => .bl b
  | _, _, .int i => .int i
  | _, _, .str z => .str z
  | _, _, .tup h1 h2 => .tup (e.t h1) (DaAll.up e h2)
  | _, _, .lst h1 h2 => .lst (e.l h1) (DaAll.up e h2)
theorem DaAll.up {T : Tb} {H H' : Hp} (e : Up T H H') : ∀ {vs : List V} {ds : List PyData}, DaAll H vs ds → DaAll H' vs ds
  | _, _, .nil => .nil
  | _, _, .cons h1 h2 => .cons (Da.up e h1) (DaAll.up e h2)
end
mutual
theorem Da.dp {K : PySem.W.Frag} {H : Hp} : ∀ {v : V} {d : PyData}, Da H v d → Dp K H v d
  | _, _, .non => .non
  | _, _, .bl b => .bl b
  | _, _, .int i => .int i
  | _, _, .str z => .str z
  | _, _, .tup h1 h2 => .tup (.of h1) (DaAll.dp h2)
  | _, _, .lst h1 h2 => .lst (.of h1) (DaAll.dp h2)
theorem DaAll.dp {K : PySem.W.Frag} {H : Hp} : ∀ {vs : List V} {ds : List PyData}, DaAll H vs ds → DpAll K H vs ds
  | _, _, .nil => .nil
  | _, _, .cons h1 h2 => .cons (Da.dp h1) (DaAll.dp h2)
end
theorem DaAll.length {H : Hp} : ∀ {vs : List V} {ds : List PyData}, DaAll H vs ds → vs.length = ds.length
  | _, _, .nil => rfl
  | _, _, .cons _ h => congrArg (· + 1) (DaAll.length h)
theorem DaAll.append {H : Hp} : ∀ {vs ws : List V} {ds es : List PyData}, DaAll H vs ds → DaAll H ws es → DaAll H (vs ++ ws) (ds ++ es)
  | _, _, _, _, .nil, h => h
  | _, _, _, _, .cons a b, h => .cons a (DaAll.append b h)
theorem DaAll.allV {α : Type} {H : Hp} {R : V → α → Prop} {g : α → PyData} (h : ∀ v a, Da H v (g a) → R v a) : ∀ {vs : List V} {as : List α}, DaAll H vs (as.map g) → AllV R vs as
  | [], [], _ => AllV.nil
  | _ :: _, a :: r, .cons d t => AllV.cons (h _ a d) (DaAll.allV h t)

/-! ### people, meetings, pairs as data -/
def spanD : Option (Int × Int) → PyData | none => .none | some p => .tuple [.int p.1, .int p.2]
def perD (p : Per) : PyData := .tuple [.str p.nm, .int p.wt, .int p.sh, spanD p.sp]
def meeD (m : Mee) : PyData := .tuple [.int m.dy, .str m.a, .str m.b]
def pairD (p : Str × Int) : PyData := .tuple [.str p.1, .int p.2]
def optD : Option Int → PyData | none => .none | some i => .int i
theorem perV_of {H : Hp} {v : V} {p : Per} (h : Da H v (perD p)) : PerV H v p := by
  obtain ⟨nm, wt, sh, sp⟩ := p
  cases h with
  | tup h1 h2 =>
    cases h2 with
    | cons a h2 =>
      cases a
      cases h2 with
      | cons a h2 =>
        cases a
        cases h2 with
        | cons a h2 =>
          cases a
          cases h2 with
          | cons a h2 =>
            cases h2
            refine ⟨_, _, rfl, h1, ?_⟩
            cases sp with
            | none =>
              have a : Da H _ .none := a
              cases a
              rfl
            | some q =>
              have a : Da H _ (.tuple [.int q.1, .int q.2]) := a
              cases a with
              | tup h3 h4 =>
                cases h4 with
                | cons b h4 =>
                  cases b
                  cases h4 with
                  | cons b h4 =>
                    cases b
                    cases h4
                    exact ⟨_, rfl, h3⟩
theorem meeV_of {H : Hp} {v : V} {m : Mee} (h : Da H v (meeD m)) : MeeV H v m := by
  cases h with
  | tup h1 h2 =>
    cases h2 with
    | cons a h2 =>
      cases a
      cases h2 with
      | cons a h2 =>
        cases a
        cases h2 with
        | cons a h2 =>
          cases a
          cases h2
          exact ⟨_, rfl, h1⟩
theorem pairV_of {H : Hp} {v : V} {m : Str × Int} (h : Da H v (pairD m)) : PairV H v m := by
  cases h with
  | tup h1 h2 =>
    cases h2 with
    | cons a h2 =>
      cases a
      cases h2 with
      | cons a h2 =>
        cases a
        cases h2
        exact ⟨_, rfl, h1⟩
theorem Da.lst_inv {H : Hp} {v : V} {ds : List PyData} (h : Da H v (.list ds)) : ∃ a xs, v = .ref a ∧ H a = some (.lst xs) ∧ DaAll H xs ds := by
  cases h with
  | lst h1 h2 => exact ⟨_, _, rfl, h1, h2⟩
theorem Da.tup_inv {H : Hp} {v : V} {ds : List PyData} (h : Da H v (.tuple ds)) : ∃ a xs, v = .ref a ∧ H a = some (.tup xs) ∧ DaAll H xs ds := by
  cases h with
  | tup h1 h2 => exact ⟨_, _, rfl, h1, h2⟩
theorem Da.seqL {α : Type} {H : Hp} {R : V → α → Prop} {g : α → PyData} {v : V} {as : List α} (h : Da H v (.list (as.map g))) (f : ∀ v a, Da H v (g a) → R v a) : ∃ xs, Seq H v xs ∧ AllV R xs as := by
  obtain ⟨a, xs, rfl, h1, h2⟩ := h.lst_inv
  exact ⟨xs, ⟨a, rfl, .inl h1⟩, h2.allV f⟩
theorem Da.seqT {α : Type} {H : Hp} {R : V → α → Prop} {g : α → PyData} {v : V} {as : List α} (h : Da H v (.tuple (as.map g))) (f : ∀ v a, Da H v (g a) → R v a) : ∃ xs, Seq H v xs ∧ AllV R xs as := by
  obtain ⟨a, xs, rfl, h1, h2⟩ := h.tup_inv
  exact ⟨xs, ⟨a, rfl, .inr h1⟩, h2.allV f⟩
theorem da_opts {H : Hp} : ∀ l : List (Option Int), DaAll H (l.map optV) (l.map optD)
  | [] => .nil
  | none :: l => .cons .non (da_opts l)
  | some i :: l => .cons (.int i) (da_opts l)
theorem shp_opts (l : List (Option Int)) : SeqAt.shaped (.tuple (l.map optD)) = true := shp_tup fun d hd => by
  obtain ⟨c, _, rfl⟩ := List.mem_map.mp hd
  cases c with
  | none => exact ⟨by simp [optD, PyData.canLay0], by simp [optD, PyData.depth]⟩
  | some i => exact ⟨by simp [optD, PyData.canLay0], by simp [optD, PyData.depth]⟩
/-- two rows of days that are alike -/
theorem ne_opts {K : PySem.W.Frag} {H : Hp} {v w : V} {l l' : List (Option Int)} {Q : VK} (h1 : Da H v (.tuple (l.map optD))) (h2 : Da H w (.tuple (l'.map optD))) (e : l = l') (q : Q (.bl false) H) : rNeD K v w H Q := by
  subst e
  refine ⟨_, _, h1.dp, h2.dp, shp_opts _, shp_opts _, ?_⟩
  rw [SeqAt.eqv_refl] <;> first | exact q | (have := shp_opts l; unfold SeqAt.shaped at this; rw [Bool.and_eq_true] at this; exact this.1) | skip
theorem shp_tstrs {ns : List Str} (h : ∀ z ∈ ns, PyData.strOk z = true) : SeqAt.shaped (.tuple (ns.map PyData.str)) = true := shp_tup fun d hd => by
  obtain ⟨c, hc, rfl⟩ := List.mem_map.mp hd
  exact ⟨by simp [PyData.canLay0, h c hc], by simp [PyData.depth]⟩
theorem da_strs {H : Hp} : ∀ l : List Str, DaAll H (l.map V.str) (l.map PyData.str)
  | [] => .nil
  | z :: l => .cons (.str z) (da_strs l)

/-! ### what a display gives -/
section
variable (T : Tb)
def EvD (te : TE) (σ : L2.St) (d : PyData) : Prop := ∀ (H : Hp) (Q : VK), (∀ v H', Up T H H' → Da H' v d → Q v H') → te σ H Q
def EvDs (ta : TA) (σ : L2.St) (ds : List PyData) : Prop := ∀ (H : Hp) (Q : List V → Hp → Prop), (∀ vs H', Up T H H' → DaAll H' vs ds → Q vs H') → ta σ H Q
end
section
variable {T : Tb} {σ : L2.St} {te ta tb : TE} {t : TA}
theorem evd_s {i : Nat} {z : Str} (h : σ[i]? = some (some (.str z))) : EvD T (tVar i) σ (.str z) := fun H Q k => ⟨_, h, k _ H (Up.refl H) (.str z)⟩
theorem evd_i {i : Nat} {z : Int} (h : σ[i]? = some (some (.int z))) : EvD T (tVar i) σ (.int z) := fun H Q k => ⟨_, h, k _ H (Up.refl H) (.int z)⟩
theorem evd_int {z : Int} : EvD T (tC (.int z)) σ (.int z) := fun H Q k => k _ H (Up.refl H) (.int z)
theorem evd_non : EvD T (tC .non) σ .none := fun H Q k => k _ H (Up.refl H) .non
theorem evd_bl {b : Bool} : EvD T (tC (.bl b)) σ (.bool b) := fun H Q k => k _ H (Up.refl H) (.bl b)
theorem evd_str {z : Str} : EvD T (tC (.str z)) σ (.str z) := fun H Q k => k _ H (Up.refl H) (.str z)
theorem evd_add {a b : Int} (h1 : EvD T ta σ (.int a)) (h2 : EvD T tb σ (.int b)) : EvD T (tOp (rI0 fun i j => .int (i + j)) ta tb) σ (.int (a + b)) := fun H Q k =>
  h1 H _ fun v H1 u1 d1 => h2 H1 _ fun w H2 u2 d2 => by
    cases d1
    cases d2
    exact ⟨a, b, rfl, rfl, k _ H2 (u1.trans u2) (.int _)⟩
theorem evds_nil : EvDs T tNil σ [] := fun H Q k => k [] H (Up.refl H) .nil
theorem evds_cons {d : PyData} {ds : List PyData} (h1 : EvD T te σ d) (h2 : EvDs T t σ ds) : EvDs T (tCons te t) σ (d :: ds) := fun H Q k =>
  h1 H _ fun v H1 u1 d1 => h2 H1 _ fun vs H2 u2 d2 => k (v :: vs) H2 (u1.trans u2) (.cons (d1.up u2) d2)
theorem evd_tup {ds : List PyData} (h : EvDs T t σ ds) (hl : ds.length ≤ 1000) : EvD T (tTup t) σ (.tuple ds) := fun H Q k =>
  h H _ fun vs H1 u1 d1 => by
    have e := d1.length
    have hs : sizeLine = 16777216 := sizeLine_eq
    exact ⟨by omega, fun p hp => k _ _ (u1.trans (Up.new hp)) (.tup upd_same (d1.up (Up.new (T := T) hp)))⟩
theorem evd_lst {ds : List PyData} (h : EvDs T t σ ds) (hl : ds.length ≤ 1000) : EvD T (tLst t) σ (.list ds) := fun H Q k =>
  h H _ fun vs H1 u1 d1 => by
    have e := d1.length
    have hs : sizeLine = 16777216 := sizeLine_eq
    exact ⟨by omega, fun p hp => k _ _ (u1.trans (Up.new hp)) (.lst upd_same (d1.up (Up.new (T := T) hp)))⟩
end
end FB

set_option Elab.async false
set_option maxRecDepth 100000
set_option maxHeartbeats 16000000
set_option linter.unusedVariables false
/-! what k17 has written: its plan, its worlds, its chains -/
namespace FB
open PySem L2

def gN (wts : List Int) (at_ : Nat) (d : Int) (g t : Nat) (s : Sprd) : Sprd :=
  if soonB ((s.1[t]?).getD none) d && ableB ((wts[g]?).getD 0) ((s.1[g]?).getD none) d then (s.1.set t (some d), s.2.set t (some (g, at_))) else s
def stepN (wts : List Int) (s : Sprd) (q : Nat × Int × Nat × Nat) : Sprd := gN wts q.1 q.2.1 q.2.2.2 q.2.2.1 (gN wts q.1 q.2.1 q.2.2.1 q.2.2.2 s)
theorem wtAt_eq {ps : List Per} {i : Nat} : wtAt ps i = ((ps.map (·.wt))[i]?).getD 0 := by
  unfold wtAt
  rw [List.getElem?_map]
  cases ps[i]? <;> rfl
theorem stepG_eq {ps : List Per} {at_ g t : Nat} {d : Int} {s : Sprd} : stepG ps at_ d g t s = gN (ps.map (·.wt)) at_ d g t s := by
  unfold stepG gN
  rw [wtAt_eq]
theorem spread_of {ps : List Per} {ms : List Mee} {wd : Wor} {js : List Nat} {rows : List (Nat × Int × Nat × Nat)} {wts : List Int} {st : List (Option Int)} (ho : order ms = js) (hw : ps.map (·.wt) = wts) (hs : start0 ps wd = st)
    (hr : js.map (fun j => (ms[j]?).map fun m => (j, m.dy, pl ps m.a, pl ps m.b)) = rows.map some) : spreadM ps ms wd = rows.foldl (stepN wts) (st, List.replicate ps.length none) := by
  unfold spreadM
  rw [ho, hs]
  generalize (st, List.replicate ps.length (none : Option (Nat × Nat))) = s
  clear ho hs
  induction js generalizing rows s with
  | nil =>
    cases rows with
    | nil => rfl
    | cons _ _ => cases hr
  | cons j js ih =>
    cases rows with
    | nil => cases hr
    | cons r rows =>
      simp only [List.map_cons, List.cons.injEq] at hr
      obtain ⟨h1, h2⟩ := hr
      simp only [List.foldl_cons]
      rw [← ih h2]
      have e : stepM ps ms s j = stepN wts s r := by
        unfold stepM
        cases hm : ms[j]? with
        | none => rw [hm] at h1; cases h1
        | some m =>
          rw [hm] at h1
          simp only [Option.map_some, Option.some.injEq] at h1
          subst h1
          simp only [stepG_eq, stepN, hw]
      rw [e]
def fars : List Int := (List.range 50).map Int.ofNat
theorem far_mem {d : Int} (h0 : 0 ≤ d) (h1 : d < 50) : d ∈ fars := List.mem_map.mpr ⟨d.toNat, List.mem_range.mpr (by omega), by show ((d.toNat : Nat) : Int) = d; omega⟩
theorem far_bd {d : Int} (h : d ∈ fars) : 0 ≤ d ∧ d < 50 := by
  obtain ⟨n, hn, rfl⟩ := List.mem_map.mp h
  have := List.mem_range.mp hn
  constructor
  · exact Int.natCast_nonneg n
  · show ((n : Nat) : Int) < 50
    omega
def ps4 (a b c d : Str) (far : Int) : List Per := [⟨a, 2, 3, some (far, far + 9)⟩, ⟨b, 1, 1, none⟩, ⟨c, 2, 2, some (far + 4, far + 9)⟩, ⟨d, 1, 0, none⟩]
def ms4 (a b c d : Str) (far : Int) : List Mee := [⟨far + 3, a, b⟩, ⟨far + 5, b, c⟩, ⟨far + 6, d, c⟩, ⟨far + 8, d, b⟩]
section
variable {a b c d : Str} {far : Int} (hnd : [a, b, c, d].Nodup)
include hnd
theorem pl4 : pl (ps4 a b c d far) a = 0 ∧ pl (ps4 a b c d far) b = 1 ∧ pl (ps4 a b c d far) c = 2 ∧ pl (ps4 a b c d far) d = 3 := by
  have hn : (namesOf (ps4 a b c d far)).Nodup := hnd
  exact ⟨pl_eq hn (i := 0) (q := ⟨a, 2, 3, some (far, far + 9)⟩) rfl, pl_eq hn (i := 1) (q := ⟨b, 1, 1, none⟩) rfl, pl_eq hn (i := 2) (q := ⟨c, 2, 2, some (far + 4, far + 9)⟩) rfl, pl_eq hn (i := 3) (q := ⟨d, 1, 0, none⟩) rfl⟩
end
theorem order4 {a b c d : Str} {far : Int} : order (ms4 a b c d far) = [0, 1, 2, 3] := by
  unfold order
  have e : List.range (ms4 a b c d far).length = [0, 1, 2, 3] := rfl
  rw [e]
  refine List.mergeSort_of_pairwise ?_
  simp [dayAt, ms4]
/-- the plan's meetings with places for names -/
def rows4 (far : Int) : List (Nat × Int × Nat × Nat) := [(0, far + 3, 0, 1), (1, far + 5, 1, 2), (2, far + 6, 3, 2), (3, far + 8, 3, 1)]
def spr4 (far : Int) (st : List (Option Int)) : Sprd := (rows4 far).foldl (stepN [2, 1, 2, 1]) (st, [none, none, none, none])
theorem spread4 {a b c d : Str} {far : Int} (hnd : [a, b, c, d].Nodup) {wd : Wor} {st : List (Option Int)} (hs : start0 (ps4 a b c d far) wd = st) : spreadM (ps4 a b c d far) (ms4 a b c d far) wd = spr4 far st := by
  obtain ⟨pa, pb, pc, pd⟩ := pl4 (far := far) hnd
  have hr : [0, 1, 2, 3].map (fun j => ((ms4 a b c d far)[j]?).map fun m => (j, m.dy, pl (ps4 a b c d far) m.a, pl (ps4 a b c d far) m.b)) = (rows4 far).map some := by
    simp [ms4, rows4, pa, pb, pc, pd]
  exact spread_of (wts := [2, 1, 2, 1]) order4 rfl hs hr
section
variable {a b c d : Str} {far : Int} (hnd : [a, b, c, d].Nodup)
include hnd
theorem start_a {i : Int} : start0 (ps4 a b c d far) [(a, i)] = [some i, none, none, none] := by
  obtain ⟨pa, pb, pc, pd⟩ := pl4 (far := far) hnd
  show ([none, none, none, none] : List (Option Int)).set (pl (ps4 a b c d far) a) (some i) = _
  rw [pa] <;> rfl
theorem start_c {i : Int} : start0 (ps4 a b c d far) [(c, i)] = [none, none, some i, none] := by
  obtain ⟨pa, pb, pc, pd⟩ := pl4 (far := far) hnd
  show ([none, none, none, none] : List (Option Int)).set (pl (ps4 a b c d far) c) (some i) = _
  rw [pc] <;> rfl
theorem start_ca {i j : Int} : start0 (ps4 a b c d far) [(c, i), (a, j)] = [some j, none, some i, none] := by
  obtain ⟨pa, pb, pc, pd⟩ := pl4 (far := far) hnd
  show (([none, none, none, none] : List (Option Int)).set (pl (ps4 a b c d far) c) (some i)).set (pl (ps4 a b c d far) a) (some j) = _
  rw [pa, pc] <;> rfl
theorem start_ac {i j : Int} : start0 (ps4 a b c d far) [(a, i), (c, j)] = [some i, none, some j, none] := by
  obtain ⟨pa, pb, pc, pd⟩ := pl4 (far := far) hnd
  show (([none, none, none, none] : List (Option Int)).set (pl (ps4 a b c d far) a) (some i)).set (pl (ps4 a b c d far) c) (some j) = _
  rw [pa, pc] <;> rfl
end
/-- all that is wanted of each day, at once -/
def chk4 (far : Int) : Bool :=
  decide (spr4 far [some (far + 1), none, none, none] = ([some (far + 1), some (far + 3), some (far + 5), some (far + 8)], [none, some (0, 0), some (1, 1), some (1, 3)])) &&
  decide (spr4 far [some (far + 2), none, none, none] = ([some (far + 2), none, none, none], [none, none, none, none])) &&
  decide (spr4 far [none, none, some (far + 4), none] = ([none, some (far + 8), some (far + 4), some (far + 6)], [none, some (3, 3), none, some (2, 2)])) &&
  decide (spr4 far [some far, none, some (far + 5), none] = ([some far, some (far + 3), some (far + 5), some (far + 8)], [none, some (0, 0), none, some (1, 3)])) &&
  decide (spr4 far [some far, none, some (far + 9), none] = ([some far, some (far + 3), some (far + 5), some (far + 8)], [none, some (0, 0), some (1, 1), some (1, 3)])) &&
  decide (spr4 far [none, none, none, none] = ([none, none, none, none], [none, none, none, none])) &&
  decide (spr4 far [none, none, some (far + 5), none] = ([none, none, some (far + 5), none], [none, none, none, none])) &&
  decide (spr4 far [some (far + 1), none, some (far + 4), none] = ([some (far + 1), some (far + 3), some (far + 4), some (far + 6)], [none, some (0, 0), none, some (2, 2)]))
theorem all4b : fars.all chk4 = true := by decide +kernel
theorem all4 {far : Int} (h : far ∈ fars) :
    spr4 far [some (far + 1), none, none, none] = ([some (far + 1), some (far + 3), some (far + 5), some (far + 8)], [none, some (0, 0), some (1, 1), some (1, 3)]) ∧
    spr4 far [some (far + 2), none, none, none] = ([some (far + 2), none, none, none], [none, none, none, none]) ∧
    spr4 far [none, none, some (far + 4), none] = ([none, some (far + 8), some (far + 4), some (far + 6)], [none, some (3, 3), none, some (2, 2)]) ∧
    spr4 far [some far, none, some (far + 5), none] = ([some far, some (far + 3), some (far + 5), some (far + 8)], [none, some (0, 0), none, some (1, 3)]) ∧
    spr4 far [some far, none, some (far + 9), none] = ([some far, some (far + 3), some (far + 5), some (far + 8)], [none, some (0, 0), some (1, 1), some (1, 3)]) ∧
    spr4 far [none, none, none, none] = ([none, none, none, none], [none, none, none, none]) ∧
    spr4 far [none, none, some (far + 5), none] = ([none, none, some (far + 5), none], [none, none, none, none]) ∧
    spr4 far [some (far + 1), none, some (far + 4), none] = ([some (far + 1), some (far + 3), some (far + 4), some (far + 6)], [none, some (0, 0), none, some (2, 2)]) := by
  have z := List.all_eq_true.mp all4b far h
  simp only [chk4, Bool.and_eq_true, decide_eq_true_eq] at z
  obtain ⟨⟨⟨⟨⟨⟨⟨z1, z2⟩, z3⟩, z4⟩, z5⟩, z6⟩, z7⟩, z8⟩ := z
  exact ⟨z1, z2, z3, z4, z5, z6, z7, z8⟩

def six : List Str := ["ann", "bob", "cyd", "dan", "meet", "yes"]
theorem nm6 : ∀ z ∈ six, nameB (.str z) = true ∧ PyData.strOk z = true := by decide +kernel
theorem ne_of_nd {a b c d : Str} (h : [a, b, c, d].Nodup) : a ≠ b ∧ a ≠ c ∧ a ≠ d ∧ b ≠ c ∧ b ≠ d ∧ c ≠ d := by
  simp only [List.nodup_cons, List.mem_cons, List.not_mem_nil, or_false, not_or] at h
  exact ⟨h.1.1, h.1.2.1, h.1.2.2, h.2.1.1, h.2.1.2, h.2.2.1⟩
section
variable {a b c d : Str} {far : Int}
theorem good4 (hf : far ∈ fars) (ha : a ∈ six) (hb : b ∈ six) (hc : c ∈ six) (hd : d ∈ six) (hnd : [a, b, c, d].Nodup) : Good (ps4 a b c d far) (ms4 a b c d far) := by
  have h0 := (far_bd hf).1
  obtain ⟨n1, n2, n3, n4, n5, n6⟩ := ne_of_nd hnd
  refine ⟨⟨fun p hp => ?_, hnd, nofun, Nat.le_of_ble_eq_true rfl⟩, fun m hm => ?_, Nat.le_of_ble_eq_true rfl⟩
  · simp only [ps4, List.mem_cons, List.not_mem_nil, or_false] at hp
    rcases hp with rfl | rfl | rfl | rfl
    · exact ⟨(nm6 _ ha).1, by simp, by simp, by constructor <;> simp only <;> omega⟩
    · exact ⟨(nm6 _ hb).1, by simp, by simp, trivial⟩
    · exact ⟨(nm6 _ hc).1, by simp, by simp, by constructor <;> simp only <;> omega⟩
    · exact ⟨(nm6 _ hd).1, by simp, by simp, trivial⟩
  · have e : namesOf (ps4 a b c d far) = [a, b, c, d] := rfl
    rw [e]
    simp only [ms4, List.mem_cons, List.not_mem_nil, or_false] at hm
    rcases hm with rfl | rfl | rfl | rfl
    · exact ⟨by simp only; omega, by simp, by simp, n1⟩
    · exact ⟨by simp only; omega, by simp, by simp, n4⟩
    · exact ⟨by simp only; omega, by simp, by simp, n6.symm⟩
    · exact ⟨by simp only; omega, by simp, by simp, n5.symm⟩
theorem gpa {i : Int} (h1 : far ≤ i) (h2 : i ≤ far + 9) : GoodPair (ps4 a b c d far) (a, i) := ⟨0, _, far, far + 9, rfl, rfl, rfl, h1, h2⟩
theorem gpc {i : Int} (h1 : far + 4 ≤ i) (h2 : i ≤ far + 9) : GoodPair (ps4 a b c d far) (c, i) := ⟨2, _, far + 4, far + 9, rfl, rfl, rfl, h1, h2⟩
theorem goodW0 {ps : List Per} : GoodW ps [] := ⟨nofun, List.nodup_nil, Nat.zero_le _⟩
theorem goodW1 {ps : List Per} {p : Str × Int} (h : GoodPair ps p) : GoodW ps [p] := ⟨fun q hq => by rw [List.mem_singleton.mp hq]; exact h, by simp, Nat.le_of_ble_eq_true rfl⟩
theorem goodW2 {ps : List Per} {p q : Str × Int} (h1 : GoodPair ps p) (h2 : GoodPair ps q) (h : p.1 ≠ q.1) : GoodW ps [p, q] := ⟨fun r hr => by
  simp only [List.mem_cons, List.not_mem_nil, or_false] at hr
  rcases hr with rfl | rfl
  · exact h1
  · exact h2, by simp [h], Nat.le_of_ble_eq_true rfl⟩
def rowsL (a d : Str) (far : Int) : List Look := [⟨far + 9, d, true⟩, ⟨far + 6, a, false⟩]
theorem goodL (hf : far ∈ fars) : ∀ l ∈ rowsL a d far, GoodLook (ps4 a b c d far) l := by
  have h0 := (far_bd hf).1
  intro l hl
  simp only [rowsL, List.mem_cons, List.not_mem_nil, or_false] at hl
  have e : namesOf (ps4 a b c d far) = [a, b, c, d] := rfl
  rcases hl with rfl | rfl
  · exact ⟨by simp only; omega, by rw [e]; simp⟩
  · exact ⟨by simp only; omega, by rw [e]; simp⟩
def hb1 (st : List (Option Int)) (i : Nat) (m : Int) (b : Bool) : Bool := decide ((match (st[i]?).getD none with | none => false | some s => decide (s ≤ m)) = b)
def bk (far : Int) (st : List (Option Int)) : List Nat := (if hb1 st 3 (far + 9 - 0) true then [] else [0]) ++ (if hb1 st 0 (far + 6 - 3) false then [] else [1])
theorem broken4 (hnd : [a, b, c, d].Nodup) {wd : Wor} {st : List (Option Int)} (hs : sinceM (ps4 a b c d far) (ms4 a b c d far) wd = st) : brokenM (ps4 a b c d far) (ms4 a b c d far) (rowsL a d far) wd = bk far st := by
  obtain ⟨pa, pb, pc, pd⟩ := pl4 (far := far) hnd
  have e0 : holdsB (ps4 a b c d far) ⟨far + 9, d, true⟩ st = hb1 st 3 (far + 9 - 0) true := by
    unfold holdsB showsB hb1 lateM
    simp only [pd]
    rfl
  have e1 : holdsB (ps4 a b c d far) ⟨far + 6, a, false⟩ st = hb1 st 0 (far + 6 - 3) false := by
    unfold holdsB showsB hb1 lateM
    simp only [pa]
    rfl
  unfold brokenM
  rw [hs]
  show [0, 1].filter (fun i => !(((rowsL a d far)[i]?).elim true fun l => holdsB (ps4 a b c d far) l st)) = _
  unfold bk
  rw [← e0, ← e1]
  show (match !(holdsB (ps4 a b c d far) ⟨far + 9, d, true⟩ st) with | true => 0 :: (match !(holdsB (ps4 a b c d far) ⟨far + 6, a, false⟩ st) with | true => [1] | false => []) | false => (match !(holdsB (ps4 a b c d far) ⟨far + 6, a, false⟩ st) with | true => [1] | false => [])) = _
  cases holdsB (ps4 a b c d far) ⟨far + 9, d, true⟩ st <;> cases holdsB (ps4 a b c d far) ⟨far + 6, a, false⟩ st <;> rfl
end
def chkL (far : Int) : Bool :=
  decide (bk far [none, some (far + 8), some (far + 4), some (far + 6)] = []) && decide (bk far [some (far + 1), some (far + 3), some (far + 5), some (far + 8)] = [1]) &&
  decide (bk far [none, none, some (far + 5), none] = [0]) && decide (bk far [some (far + 1), some (far + 3), some (far + 4), some (far + 6)] = [1]) &&
  decide (((List.range 4).filter (delB [2, 1, 2, 1] [some (far + 1), some (far + 3), some (far + 5), some (far + 8)] (far + 6))) = [0, 1]) &&
  decide (((List.range 4).filter (delB [3, 1, 2, 0] [some (far + 1), some (far + 3), some (far + 5), some (far + 8)] (far + 4))) = [0, 1])
theorem allLb : fars.all chkL = true := by decide +kernel
/-! the near plan -/
def ps3 : List Per := [⟨"a", 1, 0, some (0, 0)⟩, ⟨"b", 1, 0, none⟩, ⟨"c", 1, 0, none⟩]
def ms3 : List Mee := [⟨1, "b", "c"⟩, ⟨1, "a", "b"⟩, ⟨2, "c", "b"⟩]
theorem good3 : Good ps3 ms3 := by
  refine ⟨⟨fun p hp => ?_, by decide +kernel, nofun, Nat.le_of_ble_eq_true rfl⟩, fun m hm => ?_, Nat.le_of_ble_eq_true rfl⟩
  · simp only [ps3, List.mem_cons, List.not_mem_nil, or_false] at hp
    rcases hp with rfl | rfl | rfl
    · exact ⟨by decide +kernel, by simp, by simp, by constructor <;> simp⟩
    · exact ⟨by decide +kernel, by simp, by simp, trivial⟩
    · exact ⟨by decide +kernel, by simp, by simp, trivial⟩
  · simp only [ms3, List.mem_cons, List.not_mem_nil, or_false] at hm
    rcases hm with rfl | rfl | rfl
    · exact ⟨by simp, by decide +kernel, by decide +kernel, by decide +kernel⟩
    · exact ⟨by simp, by decide +kernel, by decide +kernel, by decide +kernel⟩
    · exact ⟨by simp, by decide +kernel, by decide +kernel, by decide +kernel⟩
theorem order3 : order ms3 = [0, 1, 2] := by
  unfold order
  have e : List.range ms3.length = [0, 1, 2] := rfl
  rw [e]
  refine List.mergeSort_of_pairwise ?_
  simp [dayAt, ms3]
theorem spread3 : spreadM ps3 ms3 [("a", 0)] = ([some 0, some 1, some 2], [none, some (0, 1), some (1, 2)]) := by
  unfold spreadM
  rw [order3]
  decide +kernel

def lookD (l : Look) : PyData := .tuple [.int l.dy, .str l.nm, .bool l.sn]
theorem lookV_of {H : Hp} {v : V} {m : Look} (h : Da H v (lookD m)) : LookV H v m := by
  cases h with
  | tup h1 h2 =>
    cases h2 with
    | cons a h2 =>
      cases a
      cases h2 with
      | cons a h2 =>
        cases a
        cases h2 with
        | cons a h2 =>
          cases a
          cases h2
          exact ⟨_, rfl, h1⟩
theorem lots4 {a b c d : Str} {far : Int} (hf : far ∈ fars) (q1 : sinceM (ps4 a b c d far) (ms4 a b c d far) [(a, far + 1)] = [some (far + 1), some (far + 3), some (far + 5), some (far + 8)]) :
    lotM (namesOf (ps4 a b c d far)) (sinceM (ps4 a b c d far) (ms4 a b c d far) [(a, far + 1)]) ((ps4 a b c d far).map (·.wt)) (far + 6) = [a, b] ∧
    lotM (namesOf (ps4 a b c d far)) (sinceM (ps4 a b c d far) (ms4 a b c d far) [(a, far + 1)]) ((ps4 a b c d far).map (·.sh)) (far + 4) = [a, b] := by
  have z := List.all_eq_true.mp allLb far hf
  simp only [chkL, Bool.and_eq_true, decide_eq_true_eq] at z
  obtain ⟨⟨⟨⟨⟨y1, y2⟩, y3⟩, y4⟩, y5⟩, y6⟩ := z
  rw [q1]
  unfold lotM
  constructor
  · show ((List.range 4).filter (delB [2, 1, 2, 1] _ _)).map _ = _
    rw [y5]
    rfl
  · show ((List.range 4).filter (delB [3, 1, 2, 0] _ _)).map _ = _
    rw [y6]
    rfl
end FB

set_option Elab.async false
set_option maxRecDepth 100000
set_option maxHeartbeats 16000000
set_option linter.unusedVariables false
/-! the law of k17 -/
namespace FB
open PySem L2

abbrev Nl : List Str := ["_law_script", "_law_k", "_law_box", "_law_g", "_law_h", "_law_i", "_law_j", "_law_far", "_law_crowd", "_law_made", "_law_begun", "_law_both", "_law_rows", "_law_near"]
theorem sc65 : FnScope Nl ["_law_script"] (defScope s_law) := ⟨rfl, rfl, rfl, by decide +kernel, rfl, by decide +kernel, by decide +kernel⟩
def sp_law (T : Tb) (K : PySem.W.Frag) : Sp := fun vs H Q _ => ∃ (a : Addr) (ns : List Int), vs = [.ref a] ∧ LamX.Tabs T H ∧ SqL K H a (ns.map V.int) ∧ ns.length ≤ 63 ∧ ∀ H', Q (.bl true) H'
section
variable {P : Program} {w : World} {K : PySem.W.Frag} {mg : Str → Option Value} {base : Heap} {T : Tb} {C f : Addr} {fd : FuncData}
theorem ne_da {H : Hp} {v w : V} {d : PyData} {Q : VK} (h1 : Da H v d) (h2 : Da H w d) (hs : SeqAt.shaped d = true) (q : Q (.bl false) H) : rNeD K v w H Q := by
  refine ⟨_, _, h1.dp, h2.dp, hs, hs, ?_⟩
  rw [SeqAt.eqv_refl] <;> first | exact q | (have := hs; unfold SeqAt.shaped at this; rw [Bool.and_eq_true] at this; exact this.1) | skip
theorem eq_da {H : Hp} {v w : V} {d : PyData} {Q : VK} (h1 : Da H v d) (h2 : Da H w d) (hs : SeqAt.shaped d = true) (q : Q (.bl true) H) : rEqD K v w H Q := by
  refine ⟨_, _, h1.dp, h2.dp, hs, hs, ?_⟩
  rw [SeqAt.eqv_refl] <;> first | exact q | (have := hs; unfold SeqAt.shaped at this; rw [Bool.and_eq_true] at this; exact this.1) | skip
theorem da_nats {H : Hp} : ∀ l : List Nat, DaAll H (l.map fun i => V.int (i : Nat)) (l.map fun i => PyData.int (i : Nat))
  | [] => .nil
  | i :: l => .cons (.int _) (da_nats l)
theorem ne_strs {H : Hp} {v w : V} {l l' : List Str} {Q : VK} (h1 : Da H v (.tuple (l.map PyData.str))) (h2 : Da H w (.tuple (l'.map PyData.str))) (e : l = l') (ok : ∀ z ∈ l, PyData.strOk z = true) (q : Q (.bl false) H) : rNeD K v w H Q := by
  subst e
  exact ne_da h1 h2 (shp_tstrs ok) q
theorem ne_optsX {H : Hp} {v w : V} {l l' : List (Option Int)} {Q : VK} (h1 : Da H v (.tuple (l.map optD))) (h2 : Da H w (.tuple (l'.map optD))) (e : l = l') (q : Q (.bl false) H) : rNeD K v w H Q := by
  subst e
  exact ne_da h1 h2 (shp_opts _) q
@[irreducible] def tE_crowd : TE := (tLst (tCons (tTup (tCons (tVar 3) (tCons (tC (.int 2)) (tCons (tC (.int 3)) (tCons (tTup (tCons (tVar 7) (tCons (tOp (rI0 fun i j => .int (i + j)) (tVar 7) (tC (.int 9))) tNil))) tNil))))) (tCons (tTup (tCons (tVar 4) (tCons (tC (.int 1)) (tCons (tC (.int 1)) (tCons (tC .non) tNil))))) (tCons (tTup (tCons (tVar 5) (tCons (tC (.int 2)) (tCons (tC (.int 2)) (tCons (tTup (tCons (tOp (rI0 fun i j => .int (i + j)) (tVar 7) (tC (.int 4))) (tCons (tOp (rI0 fun i j => .int (i + j)) (tVar 7) (tC (.int 9))) tNil))) tNil))))) (tCons (tTup (tCons (tVar 6) (tCons (tC (.int 1)) (tCons (tC (.int 0)) (tCons (tC .non) tNil))))) tNil)))))
theorem ev_crowd {σ : L2.St} {na nb nc nd : Str} {far : Int} (h3 : σ[3]? = some (some (.str na))) (h4 : σ[4]? = some (some (.str nb))) (h5 : σ[5]? = some (some (.str nc))) (h6 : σ[6]? = some (some (.str nd))) (h7 : σ[7]? = some (some (.int far))) : EvD T tE_crowd σ (.list [.tuple [.str na, .int 2, .int 3, .tuple [.int far, .int (far + 9)]], .tuple [.str nb, .int 1, .int 1, .none], .tuple [.str nc, .int 2, .int 2, .tuple [.int (far + 4), .int (far + 9)]], .tuple [.str nd, .int 1, .int 0, .none]]) := by
  unfold tE_crowd
  exact (evd_lst (evds_cons (evd_tup (evds_cons (evd_s h3) (evds_cons evd_int (evds_cons evd_int (evds_cons (evd_tup (evds_cons (evd_i h7) (evds_cons (evd_add (evd_i h7) evd_int) evds_nil)) (Nat.le_of_ble_eq_true rfl)) evds_nil)))) (Nat.le_of_ble_eq_true rfl)) (evds_cons (evd_tup (evds_cons (evd_s h4) (evds_cons evd_int (evds_cons evd_int (evds_cons evd_non evds_nil)))) (Nat.le_of_ble_eq_true rfl)) (evds_cons (evd_tup (evds_cons (evd_s h5) (evds_cons evd_int (evds_cons evd_int (evds_cons (evd_tup (evds_cons (evd_add (evd_i h7) evd_int) (evds_cons (evd_add (evd_i h7) evd_int) evds_nil)) (Nat.le_of_ble_eq_true rfl)) evds_nil)))) (Nat.le_of_ble_eq_true rfl)) (evds_cons (evd_tup (evds_cons (evd_s h6) (evds_cons evd_int (evds_cons evd_int (evds_cons evd_non evds_nil)))) (Nat.le_of_ble_eq_true rfl)) evds_nil)))) (Nat.le_of_ble_eq_true rfl))
@[irreducible] def tE_ms : TE := (tLst (tCons (tTup (tCons (tOp (rI0 fun i j => .int (i + j)) (tVar 7) (tC (.int 3))) (tCons (tVar 3) (tCons (tVar 4) tNil)))) (tCons (tTup (tCons (tOp (rI0 fun i j => .int (i + j)) (tVar 7) (tC (.int 5))) (tCons (tVar 4) (tCons (tVar 5) tNil)))) (tCons (tTup (tCons (tOp (rI0 fun i j => .int (i + j)) (tVar 7) (tC (.int 6))) (tCons (tVar 6) (tCons (tVar 5) tNil)))) (tCons (tTup (tCons (tOp (rI0 fun i j => .int (i + j)) (tVar 7) (tC (.int 8))) (tCons (tVar 6) (tCons (tVar 4) tNil)))) tNil)))))
theorem ev_ms {σ : L2.St} {na nb nc nd : Str} {far : Int} (h3 : σ[3]? = some (some (.str na))) (h4 : σ[4]? = some (some (.str nb))) (h5 : σ[5]? = some (some (.str nc))) (h6 : σ[6]? = some (some (.str nd))) (h7 : σ[7]? = some (some (.int far))) : EvD T tE_ms σ (.list [.tuple [.int (far + 3), .str na, .str nb], .tuple [.int (far + 5), .str nb, .str nc], .tuple [.int (far + 6), .str nd, .str nc], .tuple [.int (far + 8), .str nd, .str nb]]) := by
  unfold tE_ms
  exact (evd_lst (evds_cons (evd_tup (evds_cons (evd_add (evd_i h7) evd_int) (evds_cons (evd_s h3) (evds_cons (evd_s h4) evds_nil))) (Nat.le_of_ble_eq_true rfl)) (evds_cons (evd_tup (evds_cons (evd_add (evd_i h7) evd_int) (evds_cons (evd_s h4) (evds_cons (evd_s h5) evds_nil))) (Nat.le_of_ble_eq_true rfl)) (evds_cons (evd_tup (evds_cons (evd_add (evd_i h7) evd_int) (evds_cons (evd_s h6) (evds_cons (evd_s h5) evds_nil))) (Nat.le_of_ble_eq_true rfl)) (evds_cons (evd_tup (evds_cons (evd_add (evd_i h7) evd_int) (evds_cons (evd_s h6) (evds_cons (evd_s h4) evds_nil))) (Nat.le_of_ble_eq_true rfl)) evds_nil)))) (Nat.le_of_ble_eq_true rfl))
@[irreducible] def tE_begun : TE := (tLst (tCons (tTup (tCons (tVar 3) (tCons (tOp (rI0 fun i j => .int (i + j)) (tVar 7) (tC (.int 1))) tNil))) tNil))
theorem ev_begun {σ : L2.St} {na nb nc nd : Str} {far : Int} (h3 : σ[3]? = some (some (.str na))) (h4 : σ[4]? = some (some (.str nb))) (h5 : σ[5]? = some (some (.str nc))) (h6 : σ[6]? = some (some (.str nd))) (h7 : σ[7]? = some (some (.int far))) : EvD T tE_begun σ (.list [.tuple [.str na, .int (far + 1)]]) := by
  unfold tE_begun
  exact (evd_lst (evds_cons (evd_tup (evds_cons (evd_s h3) (evds_cons (evd_add (evd_i h7) evd_int) evds_nil)) (Nat.le_of_ble_eq_true rfl)) evds_nil) (Nat.le_of_ble_eq_true rfl))
@[irreducible] def tE_r6 : TE := (tTup (tCons (tOp (rI0 fun i j => .int (i + j)) (tVar 7) (tC (.int 1))) (tCons (tOp (rI0 fun i j => .int (i + j)) (tVar 7) (tC (.int 3))) (tCons (tOp (rI0 fun i j => .int (i + j)) (tVar 7) (tC (.int 5))) (tCons (tOp (rI0 fun i j => .int (i + j)) (tVar 7) (tC (.int 8))) tNil)))))
theorem ev_r6 {σ : L2.St} {na nb nc nd : Str} {far : Int} (h3 : σ[3]? = some (some (.str na))) (h4 : σ[4]? = some (some (.str nb))) (h5 : σ[5]? = some (some (.str nc))) (h6 : σ[6]? = some (some (.str nd))) (h7 : σ[7]? = some (some (.int far))) : EvD T tE_r6 σ (.tuple [.int (far + 1), .int (far + 3), .int (far + 5), .int (far + 8)]) := by
  unfold tE_r6
  exact (evd_tup (evds_cons (evd_add (evd_i h7) evd_int) (evds_cons (evd_add (evd_i h7) evd_int) (evds_cons (evd_add (evd_i h7) evd_int) (evds_cons (evd_add (evd_i h7) evd_int) evds_nil)))) (Nat.le_of_ble_eq_true rfl))
@[irreducible] def tE_q6 : TE := (tTup (tCons (tC (.int 0)) (tCons (tC (.int 3)) tNil)))
theorem ev_q6 {σ : L2.St} {na nb nc nd : Str} {far : Int} (h3 : σ[3]? = some (some (.str na))) (h4 : σ[4]? = some (some (.str nb))) (h5 : σ[5]? = some (some (.str nc))) (h6 : σ[6]? = some (some (.str nd))) (h7 : σ[7]? = some (some (.int far))) : EvD T tE_q6 σ (.tuple [.int 0, .int 3]) := by
  unfold tE_q6
  exact (evd_tup (evds_cons evd_int (evds_cons evd_int evds_nil)) (Nat.le_of_ble_eq_true rfl))
@[irreducible] def tE_w7 : TE := (tLst (tCons (tTup (tCons (tVar 3) (tCons (tOp (rI0 fun i j => .int (i + j)) (tVar 7) (tC (.int 2))) tNil))) tNil))
theorem ev_w7 {σ : L2.St} {na nb nc nd : Str} {far : Int} (h3 : σ[3]? = some (some (.str na))) (h4 : σ[4]? = some (some (.str nb))) (h5 : σ[5]? = some (some (.str nc))) (h6 : σ[6]? = some (some (.str nd))) (h7 : σ[7]? = some (some (.int far))) : EvD T tE_w7 σ (.list [.tuple [.str na, .int (far + 2)]]) := by
  unfold tE_w7
  exact (evd_lst (evds_cons (evd_tup (evds_cons (evd_s h3) (evds_cons (evd_add (evd_i h7) evd_int) evds_nil)) (Nat.le_of_ble_eq_true rfl)) evds_nil) (Nat.le_of_ble_eq_true rfl))
@[irreducible] def tE_r7 : TE := (tTup (tCons (tOp (rI0 fun i j => .int (i + j)) (tVar 7) (tC (.int 2))) (tCons (tC .non) (tCons (tC .non) (tCons (tC .non) tNil)))))
theorem ev_r7 {σ : L2.St} {na nb nc nd : Str} {far : Int} (h3 : σ[3]? = some (some (.str na))) (h4 : σ[4]? = some (some (.str nb))) (h5 : σ[5]? = some (some (.str nc))) (h6 : σ[6]? = some (some (.str nd))) (h7 : σ[7]? = some (some (.int far))) : EvD T tE_r7 σ (.tuple [.int (far + 2), .none, .none, .none]) := by
  unfold tE_r7
  exact (evd_tup (evds_cons (evd_add (evd_i h7) evd_int) (evds_cons evd_non (evds_cons evd_non (evds_cons evd_non evds_nil)))) (Nat.le_of_ble_eq_true rfl))
@[irreducible] def tE_w8 : TE := (tLst (tCons (tTup (tCons (tVar 5) (tCons (tOp (rI0 fun i j => .int (i + j)) (tVar 7) (tC (.int 4))) tNil))) tNil))
theorem ev_w8 {σ : L2.St} {na nb nc nd : Str} {far : Int} (h3 : σ[3]? = some (some (.str na))) (h4 : σ[4]? = some (some (.str nb))) (h5 : σ[5]? = some (some (.str nc))) (h6 : σ[6]? = some (some (.str nd))) (h7 : σ[7]? = some (some (.int far))) : EvD T tE_w8 σ (.list [.tuple [.str nc, .int (far + 4)]]) := by
  unfold tE_w8
  exact (evd_lst (evds_cons (evd_tup (evds_cons (evd_s h5) (evds_cons (evd_add (evd_i h7) evd_int) evds_nil)) (Nat.le_of_ble_eq_true rfl)) evds_nil) (Nat.le_of_ble_eq_true rfl))
@[irreducible] def tE_r8 : TE := (tTup (tCons (tC .non) (tCons (tOp (rI0 fun i j => .int (i + j)) (tVar 7) (tC (.int 8))) (tCons (tOp (rI0 fun i j => .int (i + j)) (tVar 7) (tC (.int 4))) (tCons (tOp (rI0 fun i j => .int (i + j)) (tVar 7) (tC (.int 6))) tNil)))))
theorem ev_r8 {σ : L2.St} {na nb nc nd : Str} {far : Int} (h3 : σ[3]? = some (some (.str na))) (h4 : σ[4]? = some (some (.str nb))) (h5 : σ[5]? = some (some (.str nc))) (h6 : σ[6]? = some (some (.str nd))) (h7 : σ[7]? = some (some (.int far))) : EvD T tE_r8 σ (.tuple [.none, .int (far + 8), .int (far + 4), .int (far + 6)]) := by
  unfold tE_r8
  exact (evd_tup (evds_cons evd_non (evds_cons (evd_add (evd_i h7) evd_int) (evds_cons (evd_add (evd_i h7) evd_int) (evds_cons (evd_add (evd_i h7) evd_int) evds_nil)))) (Nat.le_of_ble_eq_true rfl))
@[irreducible] def tE_q8 : TE := (tTup (tCons (tC (.int 2)) (tCons (tC (.int 3)) tNil)))
theorem ev_q8 {σ : L2.St} {na nb nc nd : Str} {far : Int} (h3 : σ[3]? = some (some (.str na))) (h4 : σ[4]? = some (some (.str nb))) (h5 : σ[5]? = some (some (.str nc))) (h6 : σ[6]? = some (some (.str nd))) (h7 : σ[7]? = some (some (.int far))) : EvD T tE_q8 σ (.tuple [.int 2, .int 3]) := by
  unfold tE_q8
  exact (evd_tup (evds_cons evd_int (evds_cons evd_int evds_nil)) (Nat.le_of_ble_eq_true rfl))
@[irreducible] def tE_both : TE := (tLst (tCons (tTup (tCons (tVar 5) (tCons (tOp (rI0 fun i j => .int (i + j)) (tVar 7) (tC (.int 5))) tNil))) (tCons (tTup (tCons (tVar 3) (tCons (tVar 7) tNil))) tNil)))
theorem ev_both {σ : L2.St} {na nb nc nd : Str} {far : Int} (h3 : σ[3]? = some (some (.str na))) (h4 : σ[4]? = some (some (.str nb))) (h5 : σ[5]? = some (some (.str nc))) (h6 : σ[6]? = some (some (.str nd))) (h7 : σ[7]? = some (some (.int far))) : EvD T tE_both σ (.list [.tuple [.str nc, .int (far + 5)], .tuple [.str na, .int far]]) := by
  unfold tE_both
  exact (evd_lst (evds_cons (evd_tup (evds_cons (evd_s h5) (evds_cons (evd_add (evd_i h7) evd_int) evds_nil)) (Nat.le_of_ble_eq_true rfl)) (evds_cons (evd_tup (evds_cons (evd_s h3) (evds_cons (evd_i h7) evds_nil)) (Nat.le_of_ble_eq_true rfl)) evds_nil)) (Nat.le_of_ble_eq_true rfl))
@[irreducible] def tE_r10 : TE := (tTup (tCons (tVar 7) (tCons (tOp (rI0 fun i j => .int (i + j)) (tVar 7) (tC (.int 3))) (tCons (tOp (rI0 fun i j => .int (i + j)) (tVar 7) (tC (.int 5))) (tCons (tOp (rI0 fun i j => .int (i + j)) (tVar 7) (tC (.int 8))) tNil)))))
theorem ev_r10 {σ : L2.St} {na nb nc nd : Str} {far : Int} (h3 : σ[3]? = some (some (.str na))) (h4 : σ[4]? = some (some (.str nb))) (h5 : σ[5]? = some (some (.str nc))) (h6 : σ[6]? = some (some (.str nd))) (h7 : σ[7]? = some (some (.int far))) : EvD T tE_r10 σ (.tuple [.int far, .int (far + 3), .int (far + 5), .int (far + 8)]) := by
  unfold tE_r10
  exact (evd_tup (evds_cons (evd_i h7) (evds_cons (evd_add (evd_i h7) evd_int) (evds_cons (evd_add (evd_i h7) evd_int) (evds_cons (evd_add (evd_i h7) evd_int) evds_nil)))) (Nat.le_of_ble_eq_true rfl))
@[irreducible] def tE_q10 : TE := (tTup tNil)
theorem ev_q10 {σ : L2.St} {na nb nc nd : Str} {far : Int} (h3 : σ[3]? = some (some (.str na))) (h4 : σ[4]? = some (some (.str nb))) (h5 : σ[5]? = some (some (.str nc))) (h6 : σ[6]? = some (some (.str nd))) (h7 : σ[7]? = some (some (.int far))) : EvD T tE_q10 σ (.tuple []) := by
  unfold tE_q10
  exact (evd_tup evds_nil (Nat.le_of_ble_eq_true rfl))
@[irreducible] def tE_w11 : TE := (tLst (tCons (tTup (tCons (tVar 5) (tCons (tOp (rI0 fun i j => .int (i + j)) (tVar 7) (tC (.int 9))) tNil))) (tCons (tTup (tCons (tVar 3) (tCons (tVar 7) tNil))) tNil)))
theorem ev_w11 {σ : L2.St} {na nb nc nd : Str} {far : Int} (h3 : σ[3]? = some (some (.str na))) (h4 : σ[4]? = some (some (.str nb))) (h5 : σ[5]? = some (some (.str nc))) (h6 : σ[6]? = some (some (.str nd))) (h7 : σ[7]? = some (some (.int far))) : EvD T tE_w11 σ (.list [.tuple [.str nc, .int (far + 9)], .tuple [.str na, .int far]]) := by
  unfold tE_w11
  exact (evd_lst (evds_cons (evd_tup (evds_cons (evd_s h5) (evds_cons (evd_add (evd_i h7) evd_int) evds_nil)) (Nat.le_of_ble_eq_true rfl)) (evds_cons (evd_tup (evds_cons (evd_s h3) (evds_cons (evd_i h7) evds_nil)) (Nat.le_of_ble_eq_true rfl)) evds_nil)) (Nat.le_of_ble_eq_true rfl))
@[irreducible] def tE_q11 : TE := (tTup (tCons (tC (.int 0)) (tCons (tC (.int 1)) tNil)))
theorem ev_q11 {σ : L2.St} {na nb nc nd : Str} {far : Int} (h3 : σ[3]? = some (some (.str na))) (h4 : σ[4]? = some (some (.str nb))) (h5 : σ[5]? = some (some (.str nc))) (h6 : σ[6]? = some (some (.str nd))) (h7 : σ[7]? = some (some (.int far))) : EvD T tE_q11 σ (.tuple [.int 0, .int 1]) := by
  unfold tE_q11
  exact (evd_tup (evds_cons evd_int (evds_cons evd_int evds_nil)) (Nat.le_of_ble_eq_true rfl))
@[irreducible] def tE_e11 : TE := (tLst tNil)
theorem ev_e11 {σ : L2.St} {na nb nc nd : Str} {far : Int} (h3 : σ[3]? = some (some (.str na))) (h4 : σ[4]? = some (some (.str nb))) (h5 : σ[5]? = some (some (.str nc))) (h6 : σ[6]? = some (some (.str nd))) (h7 : σ[7]? = some (some (.int far))) : EvD T tE_e11 σ (.list []) := by
  unfold tE_e11
  exact (evd_lst evds_nil (Nat.le_of_ble_eq_true rfl))
@[irreducible] def tE_n1 : TE := (tTup (tCons (tC .non) tNil))
theorem ev_n1 {σ : L2.St} {na nb nc nd : Str} {far : Int} (h3 : σ[3]? = some (some (.str na))) (h4 : σ[4]? = some (some (.str nb))) (h5 : σ[5]? = some (some (.str nc))) (h6 : σ[6]? = some (some (.str nd))) (h7 : σ[7]? = some (some (.int far))) : EvD T tE_n1 σ (.tuple [.none]) := by
  unfold tE_n1
  exact (evd_tup (evds_cons evd_non evds_nil) (Nat.le_of_ble_eq_true rfl))
@[irreducible] def tE_rows : TE := (tLst (tCons (tTup (tCons (tOp (rI0 fun i j => .int (i + j)) (tVar 7) (tC (.int 9))) (tCons (tVar 6) (tCons (tC (.bl true)) tNil)))) (tCons (tTup (tCons (tOp (rI0 fun i j => .int (i + j)) (tVar 7) (tC (.int 6))) (tCons (tVar 3) (tCons (tC (.bl false)) tNil)))) tNil)))
theorem ev_rows {σ : L2.St} {na nb nc nd : Str} {far : Int} (h3 : σ[3]? = some (some (.str na))) (h4 : σ[4]? = some (some (.str nb))) (h5 : σ[5]? = some (some (.str nc))) (h6 : σ[6]? = some (some (.str nd))) (h7 : σ[7]? = some (some (.int far))) : EvD T tE_rows σ (.list [.tuple [.int (far + 9), .str nd, .bool true], .tuple [.int (far + 6), .str na, .bool false]]) := by
  unfold tE_rows
  exact (evd_lst (evds_cons (evd_tup (evds_cons (evd_add (evd_i h7) evd_int) (evds_cons (evd_s h6) (evds_cons evd_bl evds_nil))) (Nat.le_of_ble_eq_true rfl)) (evds_cons (evd_tup (evds_cons (evd_add (evd_i h7) evd_int) (evds_cons (evd_s h3) (evds_cons evd_bl evds_nil))) (Nat.le_of_ble_eq_true rfl)) evds_nil)) (Nat.le_of_ble_eq_true rfl))
@[irreducible] def tE_w14 : TE := (tLst (tCons (tTup (tCons (tVar 5) (tCons (tOp (rI0 fun i j => .int (i + j)) (tVar 7) (tC (.int 4))) tNil))) tNil))
theorem ev_w14 {σ : L2.St} {na nb nc nd : Str} {far : Int} (h3 : σ[3]? = some (some (.str na))) (h4 : σ[4]? = some (some (.str nb))) (h5 : σ[5]? = some (some (.str nc))) (h6 : σ[6]? = some (some (.str nd))) (h7 : σ[7]? = some (some (.int far))) : EvD T tE_w14 σ (.list [.tuple [.str nc, .int (far + 4)]]) := by
  unfold tE_w14
  exact (evd_lst (evds_cons (evd_tup (evds_cons (evd_s h5) (evds_cons (evd_add (evd_i h7) evd_int) evds_nil)) (Nat.le_of_ble_eq_true rfl)) evds_nil) (Nat.le_of_ble_eq_true rfl))
@[irreducible] def tE_q14 : TE := (tTup (tCons (tC (.int 1)) tNil))
theorem ev_q14 {σ : L2.St} {na nb nc nd : Str} {far : Int} (h3 : σ[3]? = some (some (.str na))) (h4 : σ[4]? = some (some (.str nb))) (h5 : σ[5]? = some (some (.str nc))) (h6 : σ[6]? = some (some (.str nd))) (h7 : σ[7]? = some (some (.int far))) : EvD T tE_q14 σ (.tuple [.int 1]) := by
  unfold tE_q14
  exact (evd_tup (evds_cons evd_int evds_nil) (Nat.le_of_ble_eq_true rfl))
@[irreducible] def tE_w15 : TE := (tLst (tCons (tTup (tCons (tVar 5) (tCons (tOp (rI0 fun i j => .int (i + j)) (tVar 7) (tC (.int 5))) tNil))) tNil))
theorem ev_w15 {σ : L2.St} {na nb nc nd : Str} {far : Int} (h3 : σ[3]? = some (some (.str na))) (h4 : σ[4]? = some (some (.str nb))) (h5 : σ[5]? = some (some (.str nc))) (h6 : σ[6]? = some (some (.str nd))) (h7 : σ[7]? = some (some (.int far))) : EvD T tE_w15 σ (.list [.tuple [.str nc, .int (far + 5)]]) := by
  unfold tE_w15
  exact (evd_lst (evds_cons (evd_tup (evds_cons (evd_s h5) (evds_cons (evd_add (evd_i h7) evd_int) evds_nil)) (Nat.le_of_ble_eq_true rfl)) evds_nil) (Nat.le_of_ble_eq_true rfl))
@[irreducible] def tE_q15 : TE := (tTup (tCons (tC (.int 0)) tNil))
theorem ev_q15 {σ : L2.St} {na nb nc nd : Str} {far : Int} (h3 : σ[3]? = some (some (.str na))) (h4 : σ[4]? = some (some (.str nb))) (h5 : σ[5]? = some (some (.str nc))) (h6 : σ[6]? = some (some (.str nd))) (h7 : σ[7]? = some (some (.int far))) : EvD T tE_q15 σ (.tuple [.int 0]) := by
  unfold tE_q15
  exact (evd_tup (evds_cons evd_int evds_nil) (Nat.le_of_ble_eq_true rfl))
@[irreducible] def tE_x15 : TE := (tLst (tCons (tTup (tCons (tVar 5) (tCons (tOp (rI0 fun i j => .int (i + j)) (tVar 7) (tC (.int 4))) tNil))) tNil))
theorem ev_x15 {σ : L2.St} {na nb nc nd : Str} {far : Int} (h3 : σ[3]? = some (some (.str na))) (h4 : σ[4]? = some (some (.str nb))) (h5 : σ[5]? = some (some (.str nc))) (h6 : σ[6]? = some (some (.str nd))) (h7 : σ[7]? = some (some (.int far))) : EvD T tE_x15 σ (.list [.tuple [.str nc, .int (far + 4)]]) := by
  unfold tE_x15
  exact (evd_lst (evds_cons (evd_tup (evds_cons (evd_s h5) (evds_cons (evd_add (evd_i h7) evd_int) evds_nil)) (Nat.le_of_ble_eq_true rfl)) evds_nil) (Nat.le_of_ble_eq_true rfl))
@[irreducible] def tE_p15 : TE := (tTup (tCons (tC (.int 1)) tNil))
theorem ev_p15 {σ : L2.St} {na nb nc nd : Str} {far : Int} (h3 : σ[3]? = some (some (.str na))) (h4 : σ[4]? = some (some (.str nb))) (h5 : σ[5]? = some (some (.str nc))) (h6 : σ[6]? = some (some (.str nd))) (h7 : σ[7]? = some (some (.int far))) : EvD T tE_p15 σ (.tuple [.int 1]) := by
  unfold tE_p15
  exact (evd_tup (evds_cons evd_int evds_nil) (Nat.le_of_ble_eq_true rfl))
@[irreducible] def tE_crowd2 : TE := (tLst (tCons (tTup (tCons (tC (.str "a")) (tCons (tC (.int 1)) (tCons (tC (.int 0)) (tCons (tTup (tCons (tC (.int 0)) (tCons (tC (.int 0)) tNil))) tNil))))) (tCons (tTup (tCons (tC (.str "b")) (tCons (tC (.int 1)) (tCons (tC (.int 0)) (tCons (tC .non) tNil))))) (tCons (tTup (tCons (tC (.str "c")) (tCons (tC (.int 1)) (tCons (tC (.int 0)) (tCons (tC .non) tNil))))) tNil))))
theorem ev_crowd2 {σ : L2.St} {na nb nc nd : Str} {far : Int} : EvD T tE_crowd2 σ (.list [.tuple [.str "a", .int 1, .int 0, .tuple [.int 0, .int 0]], .tuple [.str "b", .int 1, .int 0, .none], .tuple [.str "c", .int 1, .int 0, .none]]) := by
  unfold tE_crowd2
  exact (evd_lst (evds_cons (evd_tup (evds_cons evd_str (evds_cons evd_int (evds_cons evd_int (evds_cons (evd_tup (evds_cons evd_int (evds_cons evd_int evds_nil)) (Nat.le_of_ble_eq_true rfl)) evds_nil)))) (Nat.le_of_ble_eq_true rfl)) (evds_cons (evd_tup (evds_cons evd_str (evds_cons evd_int (evds_cons evd_int (evds_cons evd_non evds_nil)))) (Nat.le_of_ble_eq_true rfl)) (evds_cons (evd_tup (evds_cons evd_str (evds_cons evd_int (evds_cons evd_int (evds_cons evd_non evds_nil)))) (Nat.le_of_ble_eq_true rfl)) evds_nil))) (Nat.le_of_ble_eq_true rfl))
@[irreducible] def tE_ms2 : TE := (tLst (tCons (tTup (tCons (tC (.int 1)) (tCons (tC (.str "b")) (tCons (tC (.str "c")) tNil)))) (tCons (tTup (tCons (tC (.int 1)) (tCons (tC (.str "a")) (tCons (tC (.str "b")) tNil)))) (tCons (tTup (tCons (tC (.int 2)) (tCons (tC (.str "c")) (tCons (tC (.str "b")) tNil)))) tNil))))
theorem ev_ms2 {σ : L2.St} {na nb nc nd : Str} {far : Int} : EvD T tE_ms2 σ (.list [.tuple [.int 1, .str "b", .str "c"], .tuple [.int 1, .str "a", .str "b"], .tuple [.int 2, .str "c", .str "b"]]) := by
  unfold tE_ms2
  exact (evd_lst (evds_cons (evd_tup (evds_cons evd_int (evds_cons evd_str (evds_cons evd_str evds_nil))) (Nat.le_of_ble_eq_true rfl)) (evds_cons (evd_tup (evds_cons evd_int (evds_cons evd_str (evds_cons evd_str evds_nil))) (Nat.le_of_ble_eq_true rfl)) (evds_cons (evd_tup (evds_cons evd_int (evds_cons evd_str (evds_cons evd_str evds_nil))) (Nat.le_of_ble_eq_true rfl)) evds_nil))) (Nat.le_of_ble_eq_true rfl))
@[irreducible] def tE_w16 : TE := (tLst (tCons (tTup (tCons (tC (.str "a")) (tCons (tC (.int 0)) tNil))) tNil))
theorem ev_w16 {σ : L2.St} {na nb nc nd : Str} {far : Int} : EvD T tE_w16 σ (.list [.tuple [.str "a", .int 0]]) := by
  unfold tE_w16
  exact (evd_lst (evds_cons (evd_tup (evds_cons evd_str (evds_cons evd_int evds_nil)) (Nat.le_of_ble_eq_true rfl)) evds_nil) (Nat.le_of_ble_eq_true rfl))
@[irreducible] def tE_r16 : TE := (tTup (tCons (tC (.int 0)) (tCons (tC (.int 1)) (tCons (tC (.int 2)) tNil))))
theorem ev_r16 {σ : L2.St} {na nb nc nd : Str} {far : Int} : EvD T tE_r16 σ (.tuple [.int 0, .int 1, .int 2]) := by
  unfold tE_r16
  exact (evd_tup (evds_cons evd_int (evds_cons evd_int (evds_cons evd_int evds_nil))) (Nat.le_of_ble_eq_true rfl))
@[irreducible] def tE_w17 : TE := (tLst (tCons (tTup (tCons (tC (.str "a")) (tCons (tC (.int 0)) tNil))) tNil))
theorem ev_w17 {σ : L2.St} {na nb nc nd : Str} {far : Int} : EvD T tE_w17 σ (.list [.tuple [.str "a", .int 0]]) := by
  unfold tE_w17
  exact (evd_lst (evds_cons (evd_tup (evds_cons evd_str (evds_cons evd_int evds_nil)) (Nat.le_of_ble_eq_true rfl)) evds_nil) (Nat.le_of_ble_eq_true rfl))
@[irreducible] def tE_q17 : TE := (tTup (tCons (tC (.int 1)) (tCons (tC (.int 2)) tNil)))
theorem ev_q17 {σ : L2.St} {na nb nc nd : Str} {far : Int} : EvD T tE_q17 σ (.tuple [.int 1, .int 2]) := by
  unfold tE_q17
  exact (evd_tup (evds_cons evd_int (evds_cons evd_int evds_nil)) (Nat.le_of_ble_eq_true rfl))

theorem ok_law (F : Fun K "law" "law" s_law f fd) (X : Tx K mg C) (nMax : mg "max" = none) (nMin : mg "min" = none) (cSe : CalF P w K mg base "_law_seed" 1 ["_law_script", "_law_k"] (sp_seed T K)) (cMi : CalF P w K mg base "_law_mixed" 2 ["_law_box", "_law_some"] (sp_mixed T)) (cCo : CalF P w K mg base "_law_choose" 1 ["_law_box", "_law_many"] (sp_choose T))
    (cPl : MakF P w K mg base "Plan" C 6 ["self", "people", "meetings"] [] (sp_init T C)) (cSi : CalF P w K mg base "since" 7 ["plan", "world"] (sp_since T C)) (cCh : CalF P w K mg base "chain" 7 ["plan", "world", "name"] (sp_chain T C)) (cAb : CalF P w K mg base "able" 9 ["plan", "world", "day"] (sp_lot T C (·.wt))) (cSh : CalF P w K mg base "shows" 9 ["plan", "world", "day"] (sp_lot T C (·.sh)))
    (cBr : CalF P w K mg base "broken" 8 ["plan", "looks", "world"] (sp_broken T C)) (cFi : CalF P w K mg base "fits" 9 ["plan", "looks", "world"] (sp_fits T C)) : FnOk P w K mg base CX0 10 f fd ["_law_script"] (sp_law T K) := by
  refine F.ok sc65 (fun vs H Q E h => ?_) (fun cdv A outer s H vs Q E hr h => ?_)
  · obtain ⟨_, _, rfl, _⟩ := h
    rfl
  · obtain ⟨a, ns, rfl, tabs, hs, hl, k⟩ := h
    refine' ⟨_, pss_cons ?s2 (pss_cons ?z1 (pss_cons ?z2 (pss_one ?z3))), ?r⟩
    case s2 =>
      refine' ps_for PassesOwn.never rfl (pi_range1 (by rfl) X.n_range (pa_cons (pe_callB (call_max2 rfl) (by rfl) nMax (by decide +kernel) (pa_cons pe_int (pa_cons (pe_callB (call_min2 rfl) (by rfl) nMin (by decide +kernel) (pa_cons pe_int (pa_cons (pe_callB call_len (by rfl) X.n_len PySem.boot_len (pa_cons (pv 0) pa_nil)) pa_nil))) pa_nil))) pa_nil)) (pg_name (i := 1) sc65.nd rfl (.inl rfl)) (pss_cons ?b1 (pss_cons ?b2 (pss_cons ?b3 (pss_cons ?b4 (pss_cons ?b5 (pss_cons ?b6 (pss_cons ?b7 (pss_cons ?b8 (pss_cons ?b9 (pss_cons ?b10 (pss_cons ?b11 (pss_cons ?b12 (pss_cons ?b13 (pss_cons ?b14 (pss_cons ?b15 (pss_one ?b16))))))))))))))))
      case b1 =>
        exact ps_set (i := 2) sc65.nd rfl (.inl rfl) (pe_c cSe hr (by decide) rfl (pa_cons (pv 0) (pa_cons (pv 1) pa_nil)))
      case b2 =>
        exact ps_asg (pe_slice sl_list (pe_c cMi hr (by decide) rfl (pa_cons (pv 2) (pa_cons (pe_lst (pa_cons pe_str (pa_cons pe_str (pa_cons pe_str (pa_cons pe_str (pa_cons pe_str (pa_cons pe_str pa_nil))))))) pa_nil))) po_none (po_some pe_int)) (pg_unl (by rfl) (pgs_cons (pg_name (i := 3) sc65.nd rfl (.inl rfl)) (pgs_cons (pg_name (i := 4) sc65.nd rfl (.inl rfl)) (pgs_cons (pg_name (i := 5) sc65.nd rfl (.inl rfl)) (pgs_cons (pg_name (i := 6) sc65.nd rfl (.inl rfl)) pgs_nil)))))
      case b3 =>
        exact ps_set (i := 7) sc65.nd rfl (.inl rfl) (pe_c cCo hr (by decide) rfl (pa_cons (pv 2) (pa_cons pe_int pa_nil)))
      case b4 =>
        exact ps_set (i := 8) sc65.nd rfl (.inl rfl) (show PE _ _ tE_crowd by unfold tE_crowd; exact (pe_lst (pa_cons (pe_tup (pa_cons (pv 3) (pa_cons pe_int (pa_cons pe_int (pa_cons (pe_tup (pa_cons (pv 7) (pa_cons (pe_op op_add (pv 7) pe_int) pa_nil))) pa_nil))))) (pa_cons (pe_tup (pa_cons (pv 4) (pa_cons pe_int (pa_cons pe_int (pa_cons pe_non pa_nil))))) (pa_cons (pe_tup (pa_cons (pv 5) (pa_cons pe_int (pa_cons pe_int (pa_cons (pe_tup (pa_cons (pe_op op_add (pv 7) pe_int) (pa_cons (pe_op op_add (pv 7) pe_int) pa_nil))) pa_nil))))) (pa_cons (pe_tup (pa_cons (pv 6) (pa_cons pe_int (pa_cons pe_int (pa_cons pe_non pa_nil))))) pa_nil))))))
      case b5 =>
        exact ps_set (i := 9) sc65.nd rfl (.inl rfl) (pe_mk cPl hr (by decide) rfl (pa_cons (pv 8) (pa_cons (show PE _ _ tE_ms by unfold tE_ms; exact (pe_lst (pa_cons (pe_tup (pa_cons (pe_op op_add (pv 7) pe_int) (pa_cons (pv 3) (pa_cons (pv 4) pa_nil)))) (pa_cons (pe_tup (pa_cons (pe_op op_add (pv 7) pe_int) (pa_cons (pv 4) (pa_cons (pv 5) pa_nil)))) (pa_cons (pe_tup (pa_cons (pe_op op_add (pv 7) pe_int) (pa_cons (pv 6) (pa_cons (pv 5) pa_nil)))) (pa_cons (pe_tup (pa_cons (pe_op op_add (pv 7) pe_int) (pa_cons (pv 6) (pa_cons (pv 4) pa_nil)))) pa_nil)))))) pa_nil)))
      case b6 =>
        exact ps_set (i := 10) sc65.nd rfl (.inl rfl) (show PE _ _ tE_begun by unfold tE_begun; exact (pe_lst (pa_cons (pe_tup (pa_cons (pv 3) (pa_cons (pe_op op_add (pv 7) pe_int) pa_nil))) pa_nil)))
      case b7 =>
        exact ps_if (PW.pt (pw_or (pt_cmpR (op_neD hr.units) (pe_c cSi hr (by decide) rfl (pa_cons (pv 9) (pa_cons (pv 10) pa_nil))) (show PE _ _ tE_r6 by unfold tE_r6; exact (pe_tup (pa_cons (pe_op op_add (pv 7) pe_int) (pa_cons (pe_op op_add (pv 7) pe_int) (pa_cons (pe_op op_add (pv 7) pe_int) (pa_cons (pe_op op_add (pv 7) pe_int) pa_nil)))))) (nomark _)) (pw_or1 (pt_cmpR (op_neD hr.units) (pe_c cCh hr (by decide) rfl (pa_cons (pv 9) (pa_cons (pv 10) (pa_cons (pv 6) pa_nil)))) (show PE _ _ tE_q6 by unfold tE_q6; exact (pe_tup (pa_cons pe_int (pa_cons pe_int pa_nil)))) (nomark _))))) (pss_one (ps_ret pe_bl)) pss_nil
      case b8 =>
        exact ps_if (PW.pt (pw_or (pt_cmpR (op_neD hr.units) (pe_c cSi hr (by decide) rfl (pa_cons (pv 9) (pa_cons (show PE _ _ tE_w7 by unfold tE_w7; exact (pe_lst (pa_cons (pe_tup (pa_cons (pv 3) (pa_cons (pe_op op_add (pv 7) pe_int) pa_nil))) pa_nil))) pa_nil))) (show PE _ _ tE_r7 by unfold tE_r7; exact (pe_tup (pa_cons (pe_op op_add (pv 7) pe_int) (pa_cons pe_non (pa_cons pe_non (pa_cons pe_non pa_nil)))))) (nomark _)) (pw_or1 (pt_cmpR op_notN (pe_c cCh hr (by decide) rfl (pa_cons (pv 9) (pa_cons (show PE _ _ tE_w7 by unfold tE_w7; exact (pe_lst (pa_cons (pe_tup (pa_cons (pv 3) (pa_cons (pe_op op_add (pv 7) pe_int) pa_nil))) pa_nil))) (pa_cons (pv 4) pa_nil)))) pe_non (nomark _))))) (pss_one (ps_ret pe_bl)) pss_nil
      case b9 =>
        exact ps_if (PW.pt (pw_or (pt_cmpR (op_neD hr.units) (pe_c cSi hr (by decide) rfl (pa_cons (pv 9) (pa_cons (show PE _ _ tE_w8 by unfold tE_w8; exact (pe_lst (pa_cons (pe_tup (pa_cons (pv 5) (pa_cons (pe_op op_add (pv 7) pe_int) pa_nil))) pa_nil))) pa_nil))) (show PE _ _ tE_r8 by unfold tE_r8; exact (pe_tup (pa_cons pe_non (pa_cons (pe_op op_add (pv 7) pe_int) (pa_cons (pe_op op_add (pv 7) pe_int) (pa_cons (pe_op op_add (pv 7) pe_int) pa_nil)))))) (nomark _)) (pw_or1 (pt_cmpR (op_neD hr.units) (pe_c cCh hr (by decide) rfl (pa_cons (pv 9) (pa_cons (show PE _ _ tE_w8 by unfold tE_w8; exact (pe_lst (pa_cons (pe_tup (pa_cons (pv 5) (pa_cons (pe_op op_add (pv 7) pe_int) pa_nil))) pa_nil))) (pa_cons (pv 4) pa_nil)))) (show PE _ _ tE_q8 by unfold tE_q8; exact (pe_tup (pa_cons pe_int (pa_cons pe_int pa_nil)))) (nomark _))))) (pss_one (ps_ret pe_bl)) pss_nil
      case b10 =>
        exact ps_set (i := 11) sc65.nd rfl (.inl rfl) (show PE _ _ tE_both by unfold tE_both; exact (pe_lst (pa_cons (pe_tup (pa_cons (pv 5) (pa_cons (pe_op op_add (pv 7) pe_int) pa_nil))) (pa_cons (pe_tup (pa_cons (pv 3) (pa_cons (pv 7) pa_nil))) pa_nil))))
      case b11 =>
        exact ps_if (PW.pt (pw_or (pt_cmpR (op_neD hr.units) (pe_c cSi hr (by decide) rfl (pa_cons (pv 9) (pa_cons (pv 11) pa_nil))) (show PE _ _ tE_r10 by unfold tE_r10; exact (pe_tup (pa_cons (pv 7) (pa_cons (pe_op op_add (pv 7) pe_int) (pa_cons (pe_op op_add (pv 7) pe_int) (pa_cons (pe_op op_add (pv 7) pe_int) pa_nil)))))) (nomark _)) (pw_or1 (pt_cmpR (op_neD hr.units) (pe_c cCh hr (by decide) rfl (pa_cons (pv 9) (pa_cons (pv 10) (pa_cons (pv 3) pa_nil)))) (show PE _ _ tE_q10 by unfold tE_q10; exact (pe_tup pa_nil)) (nomark _))))) (pss_one (ps_ret pe_bl)) pss_nil
      case b12 =>
        exact ps_if (PW.pt (pw_or (pt_cmpR (op_neD hr.units) (pe_c cCh hr (by decide) rfl (pa_cons (pv 9) (pa_cons (show PE _ _ tE_w11 by unfold tE_w11; exact (pe_lst (pa_cons (pe_tup (pa_cons (pv 5) (pa_cons (pe_op op_add (pv 7) pe_int) pa_nil))) (pa_cons (pe_tup (pa_cons (pv 3) (pa_cons (pv 7) pa_nil))) pa_nil)))) (pa_cons (pv 5) pa_nil)))) (show PE _ _ tE_q11 by unfold tE_q11; exact (pe_tup (pa_cons pe_int (pa_cons pe_int pa_nil)))) (nomark _)) (pw_or1 (pt_cmpR (op_neD hr.units) (pe_c cSi hr (by decide) rfl (pa_cons (pv 9) (pa_cons (show PE _ _ tE_e11 by unfold tE_e11; exact (pe_lst pa_nil)) pa_nil))) (pe_op op_repT (show PE _ _ tE_n1 by unfold tE_n1; exact (pe_tup (pa_cons pe_non pa_nil))) pe_int) (nomark _))))) (pss_one (ps_ret pe_bl)) pss_nil
      case b13 =>
        exact ps_if (PW.pt (pw_or (pt_cmpR (op_neD hr.units) (pe_c cAb hr (by decide) rfl (pa_cons (pv 9) (pa_cons (pv 10) (pa_cons (pe_op op_add (pv 7) pe_int) pa_nil)))) (pe_callTy call_tupleS (by rfl) X.n_tuple (by decide +kernel) (pa_cons (pe_callB cr_sortedS (by rfl) X.n_sorted (by decide +kernel) (pa_cons (pe_lst (pa_cons (pv 3) (pa_cons (pv 4) pa_nil))) pa_nil)) pa_nil)) (nomark _)) (pw_or1 (pt_cmpR (op_neD hr.units) (pe_c cSh hr (by decide) rfl (pa_cons (pv 9) (pa_cons (pv 10) (pa_cons (pe_op op_add (pv 7) pe_int) pa_nil)))) (pe_callTy call_tupleS (by rfl) X.n_tuple (by decide +kernel) (pa_cons (pe_callB cr_sortedS (by rfl) X.n_sorted (by decide +kernel) (pa_cons (pe_lst (pa_cons (pv 3) (pa_cons (pv 4) pa_nil))) pa_nil)) pa_nil)) (nomark _))))) (pss_one (ps_ret pe_bl)) pss_nil
      case b14 =>
        exact ps_set (i := 12) sc65.nd rfl (.inl rfl) (show PE _ _ tE_rows by unfold tE_rows; exact (pe_lst (pa_cons (pe_tup (pa_cons (pe_op op_add (pv 7) pe_int) (pa_cons (pv 6) (pa_cons pe_bl pa_nil)))) (pa_cons (pe_tup (pa_cons (pe_op op_add (pv 7) pe_int) (pa_cons (pv 3) (pa_cons pe_bl pa_nil)))) pa_nil))))
      case b15 =>
        exact ps_if (PW.pt (pw_or (pt_cmpR op_isnot_bl (pe_c cFi hr (by decide) rfl (pa_cons (pv 9) (pa_cons (pv 12) (pa_cons (show PE _ _ tE_w14 by unfold tE_w14; exact (pe_lst (pa_cons (pe_tup (pa_cons (pv 5) (pa_cons (pe_op op_add (pv 7) pe_int) pa_nil))) pa_nil))) pa_nil)))) pe_bl (nomark _)) (pw_or1 (pt_cmpR (op_neD hr.units) (pe_c cBr hr (by decide) rfl (pa_cons (pv 9) (pa_cons (pv 12) (pa_cons (pe_tup (pa_cons (pe_ix ix_list (pv 10) pe_int (fun _ _ => rfl)) pa_nil)) pa_nil)))) (show PE _ _ tE_q14 by unfold tE_q14; exact (pe_tup (pa_cons pe_int pa_nil))) (nomark _))))) (pss_one (ps_ret pe_bl)) pss_nil
      case b16 =>
        exact ps_if (PW.pt (pw_or (pt_cmpR (op_neD hr.units) (pe_c cBr hr (by decide) rfl (pa_cons (pv 9) (pa_cons (pv 12) (pa_cons (show PE _ _ tE_w15 by unfold tE_w15; exact (pe_lst (pa_cons (pe_tup (pa_cons (pv 5) (pa_cons (pe_op op_add (pv 7) pe_int) pa_nil))) pa_nil))) pa_nil)))) (show PE _ _ tE_q15 by unfold tE_q15; exact (pe_tup (pa_cons pe_int pa_nil))) (nomark _)) (pw_or1 (pt_cmpR (op_neD hr.units) (pe_c cBr hr (by decide) rfl (pa_cons (pv 9) (pa_cons (pv 12) (pa_cons (pe_op op_cat (pv 10) (show PE _ _ tE_x15 by unfold tE_x15; exact (pe_lst (pa_cons (pe_tup (pa_cons (pv 5) (pa_cons (pe_op op_add (pv 7) pe_int) pa_nil))) pa_nil)))) pa_nil)))) (show PE _ _ tE_p15 by unfold tE_p15; exact (pe_tup (pa_cons pe_int pa_nil))) (nomark _))))) (pss_one (ps_ret pe_bl)) pss_nil
    case z1 =>
      exact ps_set (i := 8) sc65.nd rfl (.inl rfl) (show PE _ _ tE_crowd2 by unfold tE_crowd2; exact (pe_lst (pa_cons (pe_tup (pa_cons pe_str (pa_cons pe_int (pa_cons pe_int (pa_cons (pe_tup (pa_cons pe_int (pa_cons pe_int pa_nil))) pa_nil))))) (pa_cons (pe_tup (pa_cons pe_str (pa_cons pe_int (pa_cons pe_int (pa_cons pe_non pa_nil))))) (pa_cons (pe_tup (pa_cons pe_str (pa_cons pe_int (pa_cons pe_int (pa_cons pe_non pa_nil))))) pa_nil)))))
    case z2 =>
      exact ps_set (i := 13) sc65.nd rfl (.inl rfl) (pe_mk cPl hr (by decide) rfl (pa_cons (pv 8) (pa_cons (show PE _ _ tE_ms2 by unfold tE_ms2; exact (pe_lst (pa_cons (pe_tup (pa_cons pe_int (pa_cons pe_str (pa_cons pe_str pa_nil)))) (pa_cons (pe_tup (pa_cons pe_int (pa_cons pe_str (pa_cons pe_str pa_nil)))) (pa_cons (pe_tup (pa_cons pe_int (pa_cons pe_str (pa_cons pe_str pa_nil)))) pa_nil))))) pa_nil)))
    case z3 =>
      exact ps_ret (pe_and (pe_cmpR (op_eqD hr.units) (pe_c cSi hr (by decide) rfl (pa_cons (pv 13) (pa_cons (show PE _ _ tE_w16 by unfold tE_w16; exact (pe_lst (pa_cons (pe_tup (pa_cons pe_str (pa_cons pe_int pa_nil))) pa_nil))) pa_nil))) (show PE _ _ tE_r16 by unfold tE_r16; exact (pe_tup (pa_cons pe_int (pa_cons pe_int (pa_cons pe_int pa_nil))))) (nomark _)) (pe_one (pe_cmpR (op_eqD hr.units) (pe_c cCh hr (by decide) rfl (pa_cons (pv 13) (pa_cons (show PE _ _ tE_w17 by unfold tE_w17; exact (pe_lst (pa_cons (pe_tup (pa_cons pe_str (pa_cons pe_int pa_nil))) pa_nil))) (pa_cons pe_str pa_nil)))) (show PE _ _ tE_q17 by unfold tE_q17; exact (pe_tup (pa_cons pe_int (pa_cons pe_int pa_nil)))) (nomark _))))
    case r =>
      refine ⟨_, rfl, _, ns.length, rfl, .inl ⟨_, hs, by rw [List.length_map]⟩, 3, (ns.length : Int), rfl, 1, _, rfl, _, rfl, ?_, ?_, for_range (fun i σ H' => ∃ o1 o2 o3 o4 o5 o6 o7 o8 o9 o10 o11 o12 o13, σ = [some (.ref a), o1, o2, o3, o4, o5, o6, o7, o8, o9, o10, o11, o12, o13] ∧ LamX.Tabs T H' ∧ SqL K H' a (ns.map V.int))
        ⟨none, none, none, none, none, none, none, none, none, none, none, none, none, rfl, tabs, hs⟩ (fun i σ H0 hi p0 => ?_) (fun σ H0 p0 => ?_)⟩
      · split <;> (try split) <;> omega
      · split <;> (try split) <;> omega
      · have hi3 : i < 1000 := by
          have e3 : i < 3 := Nat.lt_of_lt_of_le hi (by split <;> (try split) <;> omega)
          omega
        obtain ⟨o1, o2, o3, o4, o5, o6, o7, o8, o9, o10, o11, o12, o13, rfl, t0, hs0⟩ := p0
        clear hi tabs hs
        refine ⟨_, rfl, _, rfl, a, i, ns, by rw [Int.zero_add] <;> rfl, by omega, hs0, hl, fun p H1 hp0 u1 hB1 => ?_⟩
        obtain ⟨g0, m0, hpb, _⟩ := id hB1
        refine ⟨_, rfl, by show 6 ≤ sizeLine; decide, fun sx hsx => ?_⟩
        have u2 : Up T H1 (upd H1 sx (.lst (six.map V.str))) := Up.new hsx
        refine ⟨p, sx, six.map V.str, rfl, hB1.up u2, (ne_of_none hpb hsx).symm, upd_same, by decide, fun ys q H3 hperm u3 hB3 hq => ?_⟩
        have nd6 : (six.map V.str).Nodup := by decide +kernel
        have nd_ := hperm.nodup_iff.mpr nd6
        have l6 : ys.length = 6 := hperm.length_eq
        obtain ⟨na, nb, nc, nd, r5, r6, rfl⟩ : ∃ (na nb nc nd : Str) (r5 r6 : V), ys = [.str na, .str nb, .str nc, .str nd, r5, r6] := by
          match ys, l6, hperm with
          | [y1, y2, y3, y4, y5, y6], _, hperm =>
            have str : ∀ y ∈ [y1, y2, y3, y4, y5, y6], ∃ z, y = V.str z := fun y hy => by
              obtain ⟨z, _, e⟩ := List.mem_map.mp (hperm.mem_iff.mp hy)
              exact ⟨z, e.symm⟩
            obtain ⟨z1, rfl⟩ := str y1 (by simp)
            obtain ⟨z2, rfl⟩ := str y2 (by simp)
            obtain ⟨z3, rfl⟩ := str y3 (by simp)
            obtain ⟨z4, rfl⟩ := str y4 (by simp)
            exact ⟨z1, z2, z3, z4, y5, y6, rfl⟩
        have six_of : ∀ z, V.str z ∈ [V.str na, .str nb, .str nc, .str nd, r5, r6] → z ∈ six := fun z hz => by
          obtain ⟨y, hy, e⟩ := List.mem_map.mp (hperm.mem_iff.mp hz)
          cases e
          exact hy
        have ha : na ∈ six := six_of na (by simp)
        have hb : nb ∈ six := six_of nb (by simp)
        have hc : nc ∈ six := six_of nc (by simp)
        have hd : nd ∈ six := six_of nd (by simp)
        have hnd : [na, nb, nc, nd].Nodup := by
          have e : ([na, nb, nc, nd].map V.str) = [V.str na, .str nb, .str nc, .str nd, r5, r6].take 4 := rfl
          have z : ([na, nb, nc, nd].map V.str).Nodup := by
            rw [e]
            exact nd_.sublist (List.take_sublist _ _)
          exact (List.pairwise_map.mp z).imp fun h e => h (congrArg V.str e)
        refine ⟨4, rfl, q, _, rfl, .of hq, fun q2 hq2 => ?_⟩
        have u4 : Up T H3 (upd H3 q2 (.lst (cutV [V.str na, .str nb, .str nc, .str nd, r5, r6] none (some 4)))) := Up.new hq2
        refine ⟨q2, _, rfl, .of upd_same, rfl, _, _, rfl, _, _, rfl, _, _, rfl, _, _, rfl, rfl, ?_⟩
        refine ⟨_, rfl, p, 50, rfl, by decide, by decide, hB3.up u4, fun far H5 f0 f1 u5 hB5 => ?_⟩
        have hf := far_mem f0 f1
        have hp2 := u2.l hpb
        obtain ⟨g3, m3, hp3, _⟩ := id hB3
        have V3 : Up T H0 H3 := UpX.low (u1.trans u2) hp0 hp2 u3
        have V5 : Up T H0 H5 := UpX.low (V3.trans u4) hp0 (u4.l hp3) u5
        clear u5 u4 u3 u2 u1 hq2 hq hp3 hp2 hB1 hB3 hB5 hpb hsx
        obtain ⟨z1, z2, z3, z4, z5, z6, z7, z8⟩ := all4 hf
        have ZL := List.all_eq_true.mp allLb far hf
        simp only [chkL, Bool.and_eq_true, decide_eq_true_eq] at ZL
        obtain ⟨⟨⟨⟨⟨k1, k2⟩, k3⟩, k4⟩, k5⟩, k6⟩ := ZL
        obtain ⟨pa, pb, pc, pd⟩ := pl4 (far := far) hnd
        have nca : nc ≠ na := fun e => (ne_of_nd hnd).2.1 e.symm
        have m_na : na ∈ namesOf (ps4 na nb nc nd far) := by show na ∈ [na, nb, nc, nd]; simp
        have m_nb : nb ∈ namesOf (ps4 na nb nc nd far) := by show nb ∈ [na, nb, nc, nd]; simp
        have m_nc : nc ∈ namesOf (ps4 na nb nc nd far) := by show nc ∈ [na, nb, nc, nd]; simp
        have m_nd : nd ∈ namesOf (ps4 na nb nc nd far) := by show nd ∈ [na, nb, nc, nd]; simp
        have S1 := (spread4 hnd (start_a hnd)).trans z1
        have S2 := (spread4 hnd (start_a hnd)).trans z2
        have S3 := (spread4 hnd (start_c hnd)).trans z3
        have S4 := (spread4 hnd (start_ca hnd)).trans z4
        have S5 := (spread4 hnd (start_ca hnd)).trans z5
        have S6 := (spread4 (wd := []) hnd rfl).trans z6
        have S7 := (spread4 hnd (start_c hnd)).trans z7
        have S8 := (spread4 hnd (start_ac hnd)).trans z8
        have q1 : sinceM (ps4 na nb nc nd far) (ms4 na nb nc nd far) [(na, far + 1)] = _ := congrArg Prod.fst S1
        have q2 : sinceM (ps4 na nb nc nd far) (ms4 na nb nc nd far) [(na, far + 2)] = _ := congrArg Prod.fst S2
        have q3 : sinceM (ps4 na nb nc nd far) (ms4 na nb nc nd far) [(nc, far + 4)] = _ := congrArg Prod.fst S3
        have q4 : sinceM (ps4 na nb nc nd far) (ms4 na nb nc nd far) [(nc, far + 5), (na, far)] = _ := congrArg Prod.fst S4
        have q5 : sinceM (ps4 na nb nc nd far) (ms4 na nb nc nd far) [(nc, far + 9), (na, far)] = _ := congrArg Prod.fst S5
        have q6 : sinceM (ps4 na nb nc nd far) (ms4 na nb nc nd far) [] = _ := congrArg Prod.fst S6
        have q7 : sinceM (ps4 na nb nc nd far) (ms4 na nb nc nd far) [(nc, far + 5)] = _ := congrArg Prod.fst S7
        have q8 : sinceM (ps4 na nb nc nd far) (ms4 na nb nc nd far) [(na, far + 1), (nc, far + 4)] = _ := congrArg Prod.fst S8
        refine (ev_crowd (T := T) (na := na) (nb := nb) (nc := nc) (nd := nd) (far := far) (by rfl) (by rfl) (by rfl) (by rfl) (by rfl)) _ _ fun v8 H6 u6 d8 => ?_
        refine ⟨_, rfl, (ev_ms (T := T) (na := na) (nb := nb) (nc := nc) (nd := nd) (far := far) (by rfl) (by rfl) (by rfl) (by rfl) (by rfl)) _ _ fun v9 H7 u7 d9 => ?_⟩
        obtain ⟨x8, s8, a8⟩ := (show Da H7 v8 (.list ((ps4 na nb nc nd far).map perD)) from d8.up u7).seqL (R := PerV H7) fun _ _ => perV_of
        obtain ⟨x9, s9, a9⟩ := (show Da H7 v9 (.list ((ms4 na nb nc nd far).map meeD)) from d9).seqL (R := MeeV H7) fun _ _ => meeV_of
        intro x dx nx ndx nex
        have g4 := good4 hf ha hb hc hd hnd
        refine ⟨H7, x, dx, _, _, x8, x9, _, _, rfl, (Up.new ndx).trans (Up.new (by rw [upd_ne nex.symm]; exact nx)), nx, upd_same, s8, a8, s9, a9, g4, fun H8 u8 hpl => ⟨rfl, ?_⟩⟩
        refine (ev_begun (T := T) (na := na) (nb := nb) (nc := nc) (nd := nd) (far := far) (by rfl) (by rfl) (by rfl) (by rfl) (by rfl)) _ _ fun vb H9 u9 db => ?_
        obtain ⟨lb, xb, rfl, hlb, db2⟩ := db.lst_inv
        have t9 := u9.2 (u8.2 (u7.2 (u6.2 (V5.2 t0))))
        have hs9 := u9.sl (u8.sl (u7.sl (u6.sl (V5.sl hs0))))
        have hp9 := hpl.up u9
        have sB : Seq H9 (.ref lb) xb := ⟨lb, rfl, .inl hlb⟩
        have aB : AllV (PairV H9) xb [(na, far + 1)] := DaAll.allV (g := pairD) (fun _ _ => pairV_of) db2
        have U : Up T H9 H9 := Up.refl H9
        clear V5 u6 u7 u8 u9 d8 d9 db s8 a8 s9 a9 hpl t0 hs0
        -- b7
        refine ⟨_, rfl, _, rfl, .ref x, .ref lb, _, _, xb, _, rfl, U.2 t9, hp9.up U, g4, (sB.up U), (aB.mono fun _ _ r => r.tk U.tk), goodW1 (gpa (by omega) (by omega)), fun tt1 G1 v1 h1 => ?_⟩
        refine (ev_r6 (T := T) (na := na) (nb := nb) (nc := nc) (nd := nd) (far := far) (by rfl) (by rfl) (by rfl) (by rfl) (by rfl)) _ _ fun y1 K1 z1 e1 => ?_
        refine ne_optsX (l := sinceM (ps4 na nb nc nd far) (ms4 na nb nc nd far) [(na, far + 1)]) (l' := [some (far + 1), some (far + 3), some (far + 5), some (far + 8)]) (.tup (z1.t h1) (da_opts _)) e1 q1 ⟨false, rfl, iteF ?_⟩
        have U := (U.trans v1).trans z1
        refine ⟨_, rfl, _, rfl, _, rfl, .ref x, .ref lb, nd, _, _, xb, _, (some (far + 8)), rfl, U.2 t9, hp9.up U, g4, m_nd, (sB.up U), (aB.mono fun _ _ r => r.tk U.tk), goodW1 (gpa (by omega) (by omega)), (by rw [q1, pd]; rfl), .inr ⟨nofun, [3, 0], (by rw [S1, pd]; exact .by_ rfl (.by_ rfl (.own rfl))), Nat.le_of_ble_eq_true rfl, fun tt2 G2 v2 h2 => ?_⟩⟩
        refine (ev_q6 (T := T) (na := na) (nb := nb) (nc := nc) (nd := nd) (far := far) (by rfl) (by rfl) (by rfl) (by rfl) (by rfl)) _ _ fun y2 K2 z2 e2 => ?_
        refine ne_da (d := .tuple [.int 0, .int 3]) (.tup (xs := [V.int 0, V.int 3]) (z2.t h2) (.cons (.int 0) (.cons (.int 3) (.nil)))) e2 (shp_nats (l := [0, 3])) ⟨false, rfl, iteF ?_⟩
        have U := (U.trans v2).trans z2
        -- b8
        refine ⟨_, rfl, (ev_w7 (T := T) (na := na) (nb := nb) (nc := nc) (nd := nd) (far := far) (by rfl) (by rfl) (by rfl) (by rfl) (by rfl)) _ _ fun w3 H_3 u3 d3 => ?_⟩
        obtain ⟨x3, s3, a3⟩ := (show Da H_3 w3 (.list (([(na, far + 2)] : Wor).map pairD)) from d3).seqL (R := PairV H_3) fun _ _ => pairV_of
        have U := U.trans u3
        refine ⟨.ref x, w3, _, _, x3, _, rfl, U.2 t9, hp9.up U, g4, s3, a3, goodW1 (gpa (by omega) (by omega)), fun tt3 G3 v3 h3 => ?_⟩
        refine (ev_r7 (T := T) (na := na) (nb := nb) (nc := nc) (nd := nd) (far := far) (by rfl) (by rfl) (by rfl) (by rfl) (by rfl)) _ _ fun y3 K3 z3 e3 => ?_
        refine ne_optsX (l := sinceM (ps4 na nb nc nd far) (ms4 na nb nc nd far) [(na, far + 2)]) (l' := [some (far + 2), none, none, none]) (.tup (z3.t h3) (da_opts _)) e3 q2 ⟨false, rfl, iteF ?_⟩
        have U := (U.trans v3).trans z3
        refine ⟨_, rfl, (ev_w7 (T := T) (na := na) (nb := nb) (nc := nc) (nd := nd) (far := far) (by rfl) (by rfl) (by rfl) (by rfl) (by rfl)) _ _ fun w4 H_4 u4 d4 => ?_⟩
        obtain ⟨x4, s4, a4⟩ := (show Da H_4 w4 (.list (([(na, far + 2)] : Wor).map pairD)) from d4).seqL (R := PairV H_4) fun _ _ => pairV_of
        have U := U.trans u4
        refine ⟨_, rfl, .ref x, w4, nb, _, _, x4, _, none, rfl, U.2 t9, hp9.up U, g4, m_nb, s4, a4, goodW1 (gpa (by omega) (by omega)), (by rw [q2, pb]; rfl), .inl ⟨rfl, fun G4 v4 => ⟨rfl, false, rfl, iteF ?_⟩⟩⟩
        have U := U.trans v4
        -- b9
        refine ⟨_, rfl, (ev_w8 (T := T) (na := na) (nb := nb) (nc := nc) (nd := nd) (far := far) (by rfl) (by rfl) (by rfl) (by rfl) (by rfl)) _ _ fun w5 H_5 u5 d5 => ?_⟩
        obtain ⟨x5, s5, a5⟩ := (show Da H_5 w5 (.list (([(nc, far + 4)] : Wor).map pairD)) from d5).seqL (R := PairV H_5) fun _ _ => pairV_of
        have U := U.trans u5
        refine ⟨.ref x, w5, _, _, x5, _, rfl, U.2 t9, hp9.up U, g4, s5, a5, goodW1 (gpc (by omega) (by omega)), fun tt5 G5 v5 h5 => ?_⟩
        refine (ev_r8 (T := T) (na := na) (nb := nb) (nc := nc) (nd := nd) (far := far) (by rfl) (by rfl) (by rfl) (by rfl) (by rfl)) _ _ fun y5 K5 z5 e5 => ?_
        refine ne_optsX (l := sinceM (ps4 na nb nc nd far) (ms4 na nb nc nd far) [(nc, far + 4)]) (l' := [none, some (far + 8), some (far + 4), some (far + 6)]) (.tup (z5.t h5) (da_opts _)) e5 q3 ⟨false, rfl, iteF ?_⟩
        have U := (U.trans v5).trans z5
        refine ⟨_, rfl, (ev_w8 (T := T) (na := na) (nb := nb) (nc := nc) (nd := nd) (far := far) (by rfl) (by rfl) (by rfl) (by rfl) (by rfl)) _ _ fun w6 H_6 u6 d6 => ?_⟩
        obtain ⟨x6, s6, a6⟩ := (show Da H_6 w6 (.list (([(nc, far + 4)] : Wor).map pairD)) from d6).seqL (R := PairV H_6) fun _ _ => pairV_of
        have U := U.trans u6
        refine ⟨_, rfl, .ref x, w6, nb, _, _, x6, _, (some (far + 8)), rfl, U.2 t9, hp9.up U, g4, m_nb, s6, a6, goodW1 (gpc (by omega) (by omega)), (by rw [q3, pb]; rfl), .inr ⟨nofun, [3, 2], (by rw [S3, pb]; exact .by_ rfl (.by_ rfl (.own rfl))), Nat.le_of_ble_eq_true rfl, fun tt6 G6 v6 h6 => ?_⟩⟩
        refine (ev_q8 (T := T) (na := na) (nb := nb) (nc := nc) (nd := nd) (far := far) (by rfl) (by rfl) (by rfl) (by rfl) (by rfl)) _ _ fun y6 K6 z6 e6 => ?_
        refine ne_da (d := .tuple [.int 2, .int 3]) (.tup (xs := [V.int 2, V.int 3]) (z6.t h6) (.cons (.int 2) (.cons (.int 3) (.nil)))) e6 (shp_nats (l := [2, 3])) ⟨false, rfl, iteF ?_⟩
        have U := (U.trans v6).trans z6
        -- b10
        refine (ev_both (T := T) (na := na) (nb := nb) (nc := nc) (nd := nd) (far := far) (by rfl) (by rfl) (by rfl) (by rfl) (by rfl)) _ _ fun v11 H10 u10 d10 => ?_
        have U := U.trans u10
        obtain ⟨x11, sC, aC⟩ := (show Da H10 v11 (.list ([(nc, far + 5), (na, far)].map pairD)) from d10).seqL (R := PairV H10) fun _ _ => pairV_of
        -- b11
        refine ⟨_, rfl, _, rfl, .ref x, v11, _, _, x11, _, rfl, U.2 t9, hp9.up U, g4, sC, aC, goodW2 (gpc (by omega) (by omega)) (gpa (by omega) (by omega)) nca, fun tt99 G99 v99 h99 => ?_⟩
        refine (ev_r10 (T := T) (na := na) (nb := nb) (nc := nc) (nd := nd) (far := far) (by rfl) (by rfl) (by rfl) (by rfl) (by rfl)) _ _ fun y99 K99 z99 e99 => ?_
        refine ne_optsX (l := sinceM (ps4 na nb nc nd far) (ms4 na nb nc nd far) [(nc, far + 5), (na, far)]) (l' := [some far, some (far + 3), some (far + 5), some (far + 8)]) (.tup (z99.t h99) (da_opts _)) e99 q4 ⟨false, rfl, iteF ?_⟩
        have U := (U.trans v99).trans z99
        refine ⟨_, rfl, _, rfl, _, rfl, .ref x, .ref lb, na, _, _, xb, _, (some (far + 1)), rfl, U.2 t9, hp9.up U, g4, m_na, (sB.up U), (aB.mono fun _ _ r => r.tk U.tk), goodW1 (gpa (by omega) (by omega)), (by rw [q1, pa]; rfl), .inr ⟨nofun, [], (by rw [S1, pa]; exact .own rfl), Nat.le_of_ble_eq_true rfl, fun tt7 G7 v7 h7 => ?_⟩⟩
        refine (ev_q10 (T := T) (na := na) (nb := nb) (nc := nc) (nd := nd) (far := far) (by rfl) (by rfl) (by rfl) (by rfl) (by rfl)) _ _ fun y7 K7 z7 e7 => ?_
        refine ne_da (d := .tuple []) (.tup (xs := []) (z7.t h7) (.nil)) e7 (shp_nats (l := [])) ⟨false, rfl, iteF ?_⟩
        have U := (U.trans v7).trans z7
        -- b12
        refine ⟨_, rfl, (ev_w11 (T := T) (na := na) (nb := nb) (nc := nc) (nd := nd) (far := far) (by rfl) (by rfl) (by rfl) (by rfl) (by rfl)) _ _ fun w8 H_8 u8 d8 => ?_⟩
        obtain ⟨x8, s8, a8⟩ := (show Da H_8 w8 (.list (([(nc, far + 9), (na, far)] : Wor).map pairD)) from d8).seqL (R := PairV H_8) fun _ _ => pairV_of
        have U := U.trans u8
        refine ⟨_, rfl, .ref x, w8, nc, _, _, x8, _, (some (far + 5)), rfl, U.2 t9, hp9.up U, g4, m_nc, s8, a8, goodW2 (gpc (by omega) (by omega)) (gpa (by omega) (by omega)) nca, (by rw [q5, pc]; rfl), .inr ⟨nofun, [1, 0], (by rw [S5, pc]; exact .by_ rfl (.by_ rfl (.own rfl))), Nat.le_of_ble_eq_true rfl, fun tt8 G8 v8 h8 => ?_⟩⟩
        refine (ev_q11 (T := T) (na := na) (nb := nb) (nc := nc) (nd := nd) (far := far) (by rfl) (by rfl) (by rfl) (by rfl) (by rfl)) _ _ fun y8 K8 z8 e8 => ?_
        refine ne_da (d := .tuple [.int 0, .int 1]) (.tup (xs := [V.int 0, V.int 1]) (z8.t h8) (.cons (.int 0) (.cons (.int 1) (.nil)))) e8 (shp_nats (l := [0, 1])) ⟨false, rfl, iteF ?_⟩
        have U := (U.trans v8).trans z8
        refine ⟨_, rfl, (ev_e11 (T := T) (na := na) (nb := nb) (nc := nc) (nd := nd) (far := far) (by rfl) (by rfl) (by rfl) (by rfl) (by rfl)) _ _ fun w9 H_9 u9 d9 => ?_⟩
        obtain ⟨x9, s9, a9⟩ := (show Da H_9 w9 (.list (([] : Wor).map pairD)) from d9).seqL (R := PairV H_9) fun _ _ => pairV_of
        have U := U.trans u9
        refine ⟨.ref x, w9, _, _, x9, _, rfl, U.2 t9, hp9.up U, g4, s9, a9, goodW0, fun tt9 G9 v9 h9 => ?_⟩
        refine (ev_n1 (T := T) (na := na) (nb := nb) (nc := nc) (nd := nd) (far := far) (by rfl) (by rfl) (by rfl) (by rfl) (by rfl)) _ _ fun yN KN zN eN => ?_
        obtain ⟨ta, xa, rfl, hta, dA⟩ := eN.tup_inv
        cases dA with
        | cons dA1 dA2 =>
          cases dA1
          cases dA2
          refine ⟨ta, 4, _, rfl, rfl, .of hta, List.cons_ne_nil _ _, by decide, by decide, by decide, fun pq hpq => ?_⟩
          have uq : Up T KN (upd KN pq (.tup (List.replicate (4 : Int).toNat [V.non]).flatten)) := Up.new hpq
          refine ne_optsX (l := sinceM (ps4 na nb nc nd far) (ms4 na nb nc nd far) []) (l' := [none, none, none, none]) (.tup ((zN.trans uq).t h9) (da_opts _)) (.tup (xs := [.non, .non, .non, .non]) upd_same (da_opts [none, none, none, none])) q6 ⟨false, rfl, iteF ?_⟩
          have U := ((U.trans v9).trans zN).trans uq
          -- b13
          refine ⟨_, rfl, _, rfl, _, rfl, far, 6, rfl, rfl, .ref x, .ref lb, _, _, xb, _, far + 6, rfl, U.2 t9, hp9.up U, g4, by show 4 < 64; decide, sB.up U, aB.mono (fun _ _ r => r.tk U.tk), goodW1 (gpa (by omega) (by omega)), fun tt10 ys10 G10 v10 hperm10 hsort10 ht10 => ?_⟩
          refine ⟨_, rfl, _, rfl, by show 2 ≤ sizeLine; decide, fun ql10 hq10 => ?_⟩
          refine ⟨ql10, [na, nb], rfl, .of upd_same, Nat.le_of_ble_eq_true rfl, fun zs10 p210 hpm10 hso10 hpn10 => ?_⟩
          refine ⟨_, _, rfl, ⟨p210, rfl, .inl upd_same⟩, fun t210 K10 uu10 h210 => ?_⟩
          have vv10 := ((Up.new (T := T) hq10).trans (Up.new (o := .lst (zs10.map V.str)) hpn10)).trans (uu10 T)
          rw [(lots4 hf q1).1] at hperm10
          refine ne_strs (l := ys10) (l' := zs10) (.tup (vv10.t ht10) (da_strs _)) (.tup h210 (da_strs _)) (sorted_one (hperm10.trans hpm10.symm) hsort10 hso10) (fun z hz => ?_) ⟨false, rfl, iteF ?_⟩
          · have hz2 := hperm10.mem_iff.mp hz
            simp only [List.mem_cons, List.not_mem_nil, or_false] at hz2
            rcases hz2 with rfl | rfl
            · exact (nm6 _ ha).2
            · exact (nm6 _ hb).2
          have U := (U.trans v10).trans vv10
          refine ⟨_, rfl, _, rfl, _, rfl, far, 4, rfl, rfl, .ref x, .ref lb, _, _, xb, _, far + 4, rfl, U.2 t9, hp9.up U, g4, by show 4 < 64; decide, sB.up U, aB.mono (fun _ _ r => r.tk U.tk), goodW1 (gpa (by omega) (by omega)), fun tt11 ys11 G11 v11 hperm11 hsort11 ht11 => ?_⟩
          refine ⟨_, rfl, _, rfl, by show 2 ≤ sizeLine; decide, fun ql11 hq11 => ?_⟩
          refine ⟨ql11, [na, nb], rfl, .of upd_same, Nat.le_of_ble_eq_true rfl, fun zs11 p211 hpm11 hso11 hpn11 => ?_⟩
          refine ⟨_, _, rfl, ⟨p211, rfl, .inl upd_same⟩, fun t211 K11 uu11 h211 => ?_⟩
          have vv11 := ((Up.new (T := T) hq11).trans (Up.new (o := .lst (zs11.map V.str)) hpn11)).trans (uu11 T)
          rw [(lots4 hf q1).2] at hperm11
          refine ne_strs (l := ys11) (l' := zs11) (.tup (vv11.t ht11) (da_strs _)) (.tup h211 (da_strs _)) (sorted_one (hperm11.trans hpm11.symm) hsort11 hso11) (fun z hz => ?_) ⟨false, rfl, iteF ?_⟩
          · have hz2 := hperm11.mem_iff.mp hz
            simp only [List.mem_cons, List.not_mem_nil, or_false] at hz2
            rcases hz2 with rfl | rfl
            · exact (nm6 _ ha).2
            · exact (nm6 _ hb).2
          have U := (U.trans v11).trans vv11
          -- b14
          refine (ev_rows (T := T) (na := na) (nb := nb) (nc := nc) (nd := nd) (far := far) (by rfl) (by rfl) (by rfl) (by rfl) (by rfl)) _ _ fun vr H12 u12 dr => ?_
          have U := U.trans u12
          obtain ⟨xr, sR, aR⟩ := (show Da H12 vr (.list ((rowsL na nd far).map lookD)) from dr).seqL (R := LookV H12) fun _ _ => lookV_of
          have M : Up T H12 H12 := Up.refl H12
          have gL := goodL (b := nb) (c := nc) (d := nd) (a := na) hf
          -- b15
          refine ⟨_, rfl, _, rfl, (ev_w14 (T := T) (na := na) (nb := nb) (nc := nc) (nd := nd) (far := far) (by rfl) (by rfl) (by rfl) (by rfl) (by rfl)) _ _ fun w12 H_12 u12 d12 => ?_⟩
          obtain ⟨x12, s12, a12⟩ := (show Da H_12 w12 (.list (([(nc, far + 4)] : Wor).map pairD)) from d12).seqL (R := PairV H_12) fun _ _ => pairV_of
          have U := U.trans u12
          have M := M.trans u12
          refine ⟨.ref x, vr, w12, _, _, xr, rowsL na nd far, x12, _, rfl, U.2 t9, hp9.up U, g4, sR.up M, aR.mono (fun _ _ r => r.tk M.tk), gL, Nat.le_of_ble_eq_true rfl, s12, a12, goodW1 (gpc (by omega) (by omega)), fun G12 v12 => ?_⟩
          rw [broken4 hnd q3, k1]
          refine ⟨_, true, rfl, rfl, false, rfl, iteF ?_⟩
          have U := U.trans v12
          have M := M.trans v12
          obtain ⟨v0, rfl⟩ : ∃ v0, xb = [v0] := by
            match xb, aB.1 with
            | [v0], _ => exact ⟨v0, rfl⟩
          refine ⟨_, rfl, _, rfl, _, rfl, lb, [v0], 0, v0, rfl, rfl, .of (U.l hlb), rfl, by show 1 ≤ sizeLine; decide, fun tq htq => ?_⟩
          have uq2 : Up T _ (upd _ tq (.tup [v0])) := Up.new htq
          have U := U.trans uq2
          have M := M.trans uq2
          refine ⟨.ref x, vr, .ref tq, _, _, xr, rowsL na nd far, [v0], _, rfl, U.2 t9, hp9.up U, g4, sR.up M, aR.mono (fun _ _ r => r.tk M.tk), gL, Nat.le_of_ble_eq_true rfl, ⟨tq, rfl, .inr upd_same⟩, (aB.mono fun _ _ r => r.tk U.tk), goodW1 (gpa (by omega) (by omega)), fun tt13 G13 v13 h13 => ?_⟩
          rw [broken4 hnd q1, k2] at h13
          refine (ev_q14 (T := T) (na := na) (nb := nb) (nc := nc) (nd := nd) (far := far) (by rfl) (by rfl) (by rfl) (by rfl) (by rfl)) _ _ fun y13 K13 z13 e13 => ?_
          refine ne_da (d := .tuple [.int 1]) (.tup (xs := [V.int 1]) (z13.t h13) (.cons (.int 1) (.nil))) e13 (shp_nats (l := [1])) ⟨false, rfl, iteF ?_⟩
          have U := (U.trans v13).trans z13
          have M := (M.trans v13).trans z13
          -- b16
          refine ⟨_, rfl, _, rfl, (ev_w15 (T := T) (na := na) (nb := nb) (nc := nc) (nd := nd) (far := far) (by rfl) (by rfl) (by rfl) (by rfl) (by rfl)) _ _ fun w14 H_14 u14 d14 => ?_⟩
          obtain ⟨x14, s14, a14⟩ := (show Da H_14 w14 (.list (([(nc, far + 5)] : Wor).map pairD)) from d14).seqL (R := PairV H_14) fun _ _ => pairV_of
          have U := U.trans u14
          have M := M.trans u14
          refine ⟨.ref x, vr, w14, _, _, xr, rowsL na nd far, x14, _, rfl, U.2 t9, hp9.up U, g4, sR.up M, aR.mono (fun _ _ r => r.tk M.tk), gL, Nat.le_of_ble_eq_true rfl, s14, a14, goodW1 (gpc (by omega) (by omega)), fun tt14 G14 v14 h14 => ?_⟩
          rw [broken4 hnd q7, k3] at h14
          refine (ev_q15 (T := T) (na := na) (nb := nb) (nc := nc) (nd := nd) (far := far) (by rfl) (by rfl) (by rfl) (by rfl) (by rfl)) _ _ fun y14 K14 z14 e14 => ?_
          refine ne_da (d := .tuple [.int 0]) (.tup (xs := [V.int 0]) (z14.t h14) (.cons (.int 0) (.nil))) e14 (shp_nats (l := [0])) ⟨false, rfl, iteF ?_⟩
          have U := (U.trans v14).trans z14
          have M := (M.trans v14).trans z14
          refine ⟨_, rfl, _, rfl, _, rfl, (ev_x15 (T := T) (na := na) (nb := nb) (nc := nc) (nd := nd) (far := far) (by rfl) (by rfl) (by rfl) (by rfl) (by rfl)) _ _ fun wX HX uX dX => ?_⟩
          obtain ⟨l2, x2, rfl, hl2, dX2⟩ := dX.lst_inv
          have aX : AllV (PairV HX) x2 [(nc, far + 4)] := DaAll.allV (g := pairD) (fun _ _ => pairV_of) dX2
          have U := U.trans uX
          have M := M.trans uX
          refine ⟨lb, l2, [v0], x2, rfl, rfl, U.l hlb, hl2, by have := aX.1; have : sizeLine = 16777216 := sizeLine_eq; simp at *; omega, fun pq hpq => ?_⟩
          have uY : Up T HX (upd HX pq (.lst ([v0] ++ x2))) := Up.new hpq
          have aY : AllV (PairV (upd HX pq (.lst ([v0] ++ x2)))) ([v0] ++ x2) [(na, far + 1), (nc, far + 4)] := (aB.mono fun _ _ r => r.tk (U.trans uY).tk).append (aX.mono fun _ _ r => r.tk uY.tk)
          have U := U.trans uY
          have M := M.trans uY
          refine ⟨.ref x, vr, .ref pq, _, _, xr, rowsL na nd far, _, _, rfl, U.2 t9, hp9.up U, g4, sR.up M, aR.mono (fun _ _ r => r.tk M.tk), gL, Nat.le_of_ble_eq_true rfl, ⟨pq, rfl, .inl upd_same⟩, aY, goodW2 (gpa (by omega) (by omega)) (gpc (by omega) (by omega)) nca.symm, fun tt15 G15 v15 h15 => ?_⟩
          rw [broken4 hnd q8, k4] at h15
          refine (ev_p15 (T := T) (na := na) (nb := nb) (nc := nc) (nd := nd) (far := far) (by rfl) (by rfl) (by rfl) (by rfl) (by rfl)) _ _ fun y15 K15 z15 e15 => ?_
          refine ne_da (d := .tuple [.int 1]) (.tup (xs := [V.int 1]) (z15.t h15) (.cons (.int 1) (.nil))) e15 (shp_nats (l := [1])) ⟨false, rfl, iteF ?_⟩
          have U := (U.trans v15).trans z15
          have M := (M.trans v15).trans z15
          exact ⟨_, _, _, _, _, _, _, _, _, _, _, _, _, rfl, U.2 t9, U.sl hs9⟩
      · obtain ⟨o1, o2, o3, o4, o5, o6, o7, o8, o9, o10, o11, o12, o13, rfl, t0, hs0⟩ := p0
        refine (ev_crowd2 (T := T) (na := ("a" : Str)) (nb := ("a" : Str)) (nc := ("a" : Str)) (nd := ("a" : Str)) (far := 0)) _ _ fun v8 H6 u6 d8 => ?_
        refine ⟨_, rfl, (ev_ms2 (T := T) (na := ("a" : Str)) (nb := ("a" : Str)) (nc := ("a" : Str)) (nd := ("a" : Str)) (far := 0)) _ _ fun v9 H7 u7 d9 => ?_⟩
        obtain ⟨x8, s8, a8⟩ := (show Da H7 v8 (.list (ps3.map perD)) from d8.up u7).seqL (R := PerV H7) fun _ _ => perV_of
        obtain ⟨x9, s9, a9⟩ := (show Da H7 v9 (.list (ms3.map meeD)) from d9).seqL (R := MeeV H7) fun _ _ => meeV_of
        intro x dx nx ndx nex
        refine ⟨H7, x, dx, _, _, x8, x9, _, _, rfl, (Up.new ndx).trans (Up.new (by rw [upd_ne nex.symm]; exact nx)), nx, upd_same, s8, a8, s9, a9, good3, fun H8 u8 hpl => ⟨rfl, ?_⟩⟩
        have t8 := u8.2 (u7.2 (u6.2 t0))
        have gw3 : GoodW ps3 [(("a" : Str), (0 : Int))] := goodW1 ⟨0, _, 0, 0, rfl, rfl, rfl, by decide, by decide⟩
        refine ⟨_, rfl, (ev_w16 (T := T) (na := ("a" : Str)) (nb := ("a" : Str)) (nc := ("a" : Str)) (nd := ("a" : Str)) (far := 0)) _ _ fun w1 H9 u9 d1 => ?_⟩
        obtain ⟨x1, s1, a1⟩ := (show Da H9 w1 (.list (([("a", 0)] : Wor).map pairD)) from d1).seqL (R := PairV H9) fun _ _ => pairV_of
        refine ⟨.ref x, w1, _, _, x1, _, rfl, u9.2 t8, hpl.up u9, good3, s1, a1, gw3, fun t1 H10 u10 h1 => ?_⟩
        refine (ev_r16 (T := T) (na := ("a" : Str)) (nb := ("a" : Str)) (nc := ("a" : Str)) (nd := ("a" : Str)) (far := 0)) _ _ fun y1 H11 u11 e1 => ?_
        have q0 : sinceM ps3 ms3 [("a", 0)] = [some 0, some 1, some 2] := congrArg Prod.fst spread3
        rw [q0] at h1
        refine eq_da (d := .tuple ([some 0, some 1, some 2].map optD)) (.tup (u11.t h1) (da_opts _)) e1 (shp_opts _) ⟨true, rfl, iteT ?_⟩
        have U := (u9.trans u10).trans u11
        refine ⟨_, rfl, (ev_w17 (T := T) (na := ("a" : Str)) (nb := ("a" : Str)) (nc := ("a" : Str)) (nd := ("a" : Str)) (far := 0)) _ _ fun w2 H12 u12 d2 => ?_⟩
        obtain ⟨x2, s2, a2⟩ := (show Da H12 w2 (.list (([("a", 0)] : Wor).map pairD)) from d2).seqL (R := PairV H12) fun _ _ => pairV_of
        have U := U.trans u12
        have pc3 : pl ps3 "c" = 2 := by decide +kernel
        refine ⟨.ref x, w2, "c", _, _, x2, _, some 2, rfl, U.2 t8, hpl.up U, good3, by decide +kernel, s2, a2, gw3, (by rw [q0, pc3]; rfl), .inr ⟨nofun, [2, 1], (by rw [spread3, pc3]; exact .by_ rfl (.by_ rfl (.own rfl))), Nat.le_of_ble_eq_true rfl, fun t3 H13 u13 h3 => ?_⟩⟩
        refine (ev_q17 (T := T) (na := ("a" : Str)) (nb := ("a" : Str)) (nc := ("a" : Str)) (nd := ("a" : Str)) (far := 0)) _ _ fun y3 H14 u14 e3 => ?_
        exact eq_da (d := .tuple [.int 1, .int 2]) (.tup (xs := [V.int 1, V.int 2]) (u14.t h3) (.cons (.int 1) (.cons (.int 2) .nil))) e3 (shp_nats (l := [1, 2])) (k _)
end
end FB

set_option Elab.async false
set_option maxRecDepth 100000
set_option maxHeartbeats 16000000
set_option linter.unusedVariables false
/-! the end: what the top has written -/
namespace FB
open PySem L2

structure Gf (K : PySem.W.Frag) (x : Str) (st : Stmt) : Prop where
  ex : ∃ (f : Addr) (fd : FuncData), PySem.W.nsIn K mainGlobals x = some (some (.ref f)) ∧ Fun K x x st f fd
theorem gf_mk {K : PySem.W.Frag} {x : Str} {st : Stmt} {f : Addr} {oc kV doc pm cdv ct : Value} {od an : Option Addr} {osl : Array (Option Value)} (a : PySem.W.nsIn K mainGlobals x = some (some (.ref f))) (l : K.lookup f = some ⟨oc, od, .func (PySem.W.fnOf x x (defArgs st) (defBody st) (defScope st) .none kV doc pm an cdv ct), osl⟩)
    (c : PySem.W.codeIn K cdv x = true) (k : PySem.W.keepIn K (.ref f) = true) : Gf K x st := ⟨⟨f, _, a, fun_mk (st := st) l c k⟩⟩
theorem Gf.cal {P : Program} {w : World} {K : PySem.W.Frag} {h : Heap} {mg : Str → Option Value} {base : Heap} {x : Str} {st : Stmt} {k : Nat} {ps : List Str} {sp : Sp} (g : Gf K x st) (X : K.In h) (G : h.Ns mainGlobals mg) (ok : ∀ f fd, Fun K x x st f fd → FnOk P w K mg base CX0 k f fd ps sp)
    (hb : ∀ (kV doc pm : Value) (an : Option Addr) (cdv ct : Value) (us : List Value), us.length = ps.length → bindArgs (PySem.W.fnOf x x (defArgs st) (defBody st) (defScope st) .none kV doc pm an cdv ct) ⟨us, []⟩ = pure (ps.zip us)) : CalF P w K mg base x k ps sp := by
  obtain ⟨f, fd, a, F⟩ := g.ex
  exact ⟨f, fd, ok f fd F, PySem.W.mg_of X G a, F.kp, F.binds hb⟩
structure Gm (K : PySem.W.Frag) (C : Addr) (m qual : Str) (st : Stmt) : Prop where
  ex : ∃ (f : Addr) (fd : FuncData), Meth K C m f ∧ Fun K m qual st f fd
theorem gm_mk {K : PySem.W.Frag} {C : Addr} {m qual : Str} {st : Stmt} {f : Addr} {oc kV doc pm cdv ct : Value} {od an : Option Addr} {osl : Array (Option Value)} (a : PySem.W.findIn K (.ref C) m = some (some (.ref f))) (i : PySem.W.isFn K (.ref f) = true) (l : K.lookup f = some ⟨oc, od, .func (PySem.W.fnOf m qual (defArgs st) (defBody st) (defScope st) .none kV doc pm an cdv ct), osl⟩)
    (c : PySem.W.codeIn K cdv qual = true) (k : PySem.W.keepIn K (.ref f) = true) : Gm K C m qual st := ⟨⟨f, _, ⟨a, i, k⟩, fun_mk (st := st) l c k⟩⟩
structure Gp (K : PySem.W.Frag) (C : Addr) (m qual : Str) (st : Stmt) : Prop where
  ex : ∃ (p f : Addr) (fd : FuncData), PropOf K C m p f ∧ Fun K m qual st f fd
theorem gp_mk {K : PySem.W.Frag} {C : Addr} {m qual : Str} {st : Stmt} {p f : Addr} {rest : List Value} {oc kV doc pm cdv ct : Value} {od an : Option Addr} {osl : Array (Option Value)} (a : PySem.W.findIn K (.ref C) m = some (some (.ref p))) (s : PySem.W.specialIn K (.ref p) "__get__" = some (some (.builtin "property.__get__"))) (t : PySem.W.takesIn K (.ref p) = some true)
    (r : PySem.W.recIn K p "property" = some (.ref f :: rest)) (l : K.lookup f = some ⟨oc, od, .func (PySem.W.fnOf m qual (defArgs st) (defBody st) (defScope st) .none kV doc pm an cdv ct), osl⟩)
    (c : PySem.W.codeIn K cdv qual = true) (k : PySem.W.keepIn K (.ref f) = true) : Gp K C m qual st := ⟨⟨p, f, _, ⟨a, s, t, rest, r⟩, fun_mk (st := st) l c k⟩⟩
structure Gi (K : PySem.W.Frag) (C f e : Addr) (fd : FuncData) : Prop where
  fd : FunD K "__init__" "Plan.__init__" (defArgs s_init) (defBody s_init) (defScope s_init) [V.ref e] [] f fd
  at_ : PySem.W.findIn K (.ref C) "__init__" = some (some (.ref f))
  fn : PySem.W.isFn K (.ref f) = true
theorem gi_mk {K : PySem.W.Frag} {C f e D : Addr} {oc kV doc pm cdv ct oc2 : Value} {od an od2 : Option Addr} {osl osl2 : Array (Option Value)} {n : Nat} (a : PySem.W.findIn K (.ref C) "__init__" = some (some (.ref f))) (i : PySem.W.isFn K (.ref f) = true)
    (l : K.lookup f = some ⟨oc, od, .func (PySem.W.fnOf "__init__" "Plan.__init__" (defArgs s_init) (defBody s_init) (defScope s_init) (.ref D) kV doc pm an cdv ct), osl⟩)
    (c : PySem.W.codeIn K cdv "Plan.__init__" = true) (k : PySem.W.keepIn K (.ref f) = true) (d : K.lookup D = some ⟨oc2, od2, .seq #[.ref e] n, osl2⟩) : Gi K C f e (PySem.W.fnOf "__init__" "Plan.__init__" (defArgs s_init) (defBody s_init) (defScope s_init) (.ref D) kV doc pm an cdv ct) :=
  ⟨⟨⟨oc, od, .ref D, kV, doc, pm, an, cdv, ct, osl, rfl, l, c, .inr ⟨List.cons_ne_nil _ _, D, _, [.ref e], n, rfl, d, rfl, .cons rfl .nil⟩, .inl rfl⟩, k⟩, a, i⟩

theorem km_none {K : Params → PySem.W.Frag} {as ts : List Addr} {e : ∀ P, as = (K P).map (·.1)} {w : World} {h : Heap} {c : Addr} (Y : (PySem.W.kmHook K as e ts).says w h) (hn : as.contains c = false) : (K w.params).lookup c = none := by
  rw [List.lookup_eq_none_iff]
  intro p hp
  have hm : p.1 ∈ as := by
    rw [e w.params]
    exact List.mem_map.mpr ⟨p, hp, rfl⟩
  have hne : ¬ c = p.1 := fun z => by
    rw [← z] at hm
    rw [List.contains_iff_mem.mpr hm] at hn
    cases hn
  simp [hne]
theorem law_at {P : Program} {w : World} {K : PySem.W.Frag} {h : Heap} {mg : Str → Option Value} {fa C pt cS fS f0 fI eI : Addr} {fdI : FuncData} (X : K.In h) (G : h.Ns mainGlobals mg) (hfa : mg "law" = some (.ref fa)) (aC : PySem.W.nsIn K mainGlobals "Plan" = some (some (.ref C)))
    {oc0 kV0 dc0 pm0 cd0 ct0 ocS kVS dcS pmS ctS : Value} {od0 an0 odS anS : Option Addr} {sl0 slS : Array (Option Value)}
    (a0 : PySem.W.nsIn K mainGlobals "law" = some (some (.ref f0))) (l0 : K.lookup f0 = some ⟨oc0, od0, .func (PySem.W.fnOf "law" "law" (defArgs s_law) (defBody s_law) (defScope s_law) .none kV0 dc0 pm0 an0 cd0 ct0), sl0⟩) (c0 : PySem.W.codeIn K cd0 "law" = true) (k0 : PySem.W.keepIn K (.ref f0) = true)
    (aS : PySem.W.nsIn K mainGlobals "spread" = some (some (.ref fS))) (lS : K.lookup fS = some ⟨ocS, odS, .func (PySem.W.fnOf "spread" "spread" (defArgs s_spread) (defBody s_spread) (defScope s_spread) .none kVS dcS pmS anS (.ref cS) ctS), slS⟩) (cS_ : PySem.W.codeIn K (.ref cS) "spread" = true) (kS : PySem.W.keepIn K (.ref fS) = true)
    {oC : Obj} (lC : K.lookup cS = some oC) (hC : PySem.W.codeHdIn [(cS, oC)] cS pt = true) (nT : K.lookup pt = none) (hT : h.get? pt = some { cls := .none, data := .fields #[] })
    (pg : PySem.W.plainGet K C Str.empty = true) (hd : PySem.W.hasDictIn K C = true) (po : PySem.W.plainOver K C = true) (sa : PySem.W.findIn K (.ref C) "__setattr__" = some (some (.builtin "object.__setattr__"))) (mk : PySem.W.makesIn K C = true) (kc : PySem.W.keepIn K (.ref C) = true)
    (nP : PySem.W.findIn K (.ref C) "people" = some none) (nM : PySem.W.findIn K (.ref C) "meetings" = some none)
    {tA tB : Tok} (zA : PySem.W.nsIn K mainGlobals "LETTERS" = some (some (.str "abcdefghijklmnopqrstuvwxyz" tA))) (zB : PySem.W.nsIn K mainGlobals "MOST_LETTERS" = some (some (.int 4 tB)))
    (finit : Gi K C fI eI fdI) (gnames : Gp K C "names" "Plan.names" s_names) (gplace : Gm K C "place" "Plan.place" s_place)
    (g_is_integer : Gf K "is_integer" s_is_integer) (g_is_number : Gf K "is_number" s_is_number) (g_is_sequence : Gf K "is_sequence" s_is_sequence) (g_is_tuple_of : Gf K "is_tuple_of" s_is_tuple_of) (g_consists_of : Gf K "consists_of" s_consists_of) (g_is_name : Gf K "is_name" s_is_name) (g_names_of : Gf K "names_of" s_names_of) (g_is_span : Gf K "is_span" s_is_span) (g_is_person : Gf K "is_person" s_is_person) (g_are_people : Gf K "are_people" s_are_people) (g_is_meeting : Gf K "is_meeting" s_is_meeting) (g_are_meetings : Gf K "are_meetings" s_are_meetings) (g_is_first_one : Gf K "is_first_one" s_is_first_one) (g_check_world : Gf K "check_world" s_check_world) (g_is_able : Gf K "is_able" s_is_able) (g_since : Gf K "since" s_since) (g_lot_behind : Gf K "lot_behind" s_lot_behind) (g_able : Gf K "able" s_able) (g_shows : Gf K "shows" s_shows) (g_is_look : Gf K "is_look" s_is_look) (g_check_looks : Gf K "check_looks" s_check_looks) (g_latest_shown_start : Gf K "latest_shown_start" s_late) (g_holds : Gf K "holds" s_holds) (g_broken : Gf K "broken" s_broken) (g_fits : Gf K "fits" s_fits) (g_chain : Gf K "chain" s_chain) (g__law_choose : Gf K "_law_choose" s_choose) (g__law_mixed : Gf K "_law_mixed" s_mixed) (g__law_seed : Gf K "_law_seed" s_seed) (z_max : PySem.W.nsIn K mainGlobals "max" = some none) (z_min : PySem.W.nsIn K mainGlobals "min" = some none) (z_reversed : PySem.W.nsIn K mainGlobals "reversed" = some none) (z_isinstance : PySem.W.nsIn K mainGlobals "isinstance" = some none) (z_len : PySem.W.nsIn K mainGlobals "len" = some none) (z_all : PySem.W.nsIn K mainGlobals "all" = some none) (z_sorted : PySem.W.nsIn K mainGlobals "sorted" = some none) (z_range : PySem.W.nsIn K mainGlobals "range" = some none) (z_enumerate : PySem.W.nsIn K mainGlobals "enumerate" = some none) (z_zip : PySem.W.nsIn K mainGlobals "zip" = some none) (z_tuple : PySem.W.nsIn K mainGlobals "tuple" = some none) (z_list : PySem.W.nsIn K mainGlobals "list" = some none) (z_int : PySem.W.nsIn K mainGlobals "int" = some none) (z_bool : PySem.W.nsIn K mainGlobals "bool" = some none) (z_str : PySem.W.nsIn K mainGlobals "str" = some none) (z_abs : PySem.W.nsIn K mainGlobals "abs" = some none) :
    ∃ (fd : FuncData) (cs : List (Addr × Addr)) (sp : Sp), (∀ p ∈ cs, h.get? p.2 = some { cls := .none, data := .fields #[] }) ∧ (∀ p ∈ cs, K.lookup p.2 = none) ∧ (∀ p ∈ cs, PySem.W.CodeHd h p.1 p.2) ∧ (∀ (s : Shared) (u : Value), BindsTo s fd ⟨[u], []⟩ [("_law_script", u)]) ∧
    (∀ (H : Hp) (a : Addr) (ns : List Int), ns.length ≤ 63 → (∀ z ∈ ns, Builtin.Int.intBits z ≤ 1048576) → (∀ p ∈ cs, H p.2 = some (.tbl #[])) → SqL K H a (ns.map V.int) → sp [.ref a] H (fun v _ => v = .bl true) fun _ _ _ => False) ∧
    ∀ base : Heap, K.In base → base.Ns mainGlobals mg → (∀ p ∈ cs, LamX.TabB base mg p.1 p.2) → FnOk P w K mg base CX0 10 fa fd ["_law_script"] sp := by
  have e := hfa.symm.trans (PySem.W.mg_of X G a0)
  cases e
  have hh : PySem.W.codeHdIn K cS pt = true := by
    have z : ([(cS, oC)] : PySem.W.Frag).lookup cS = some oC := by simp [List.lookup]
    unfold PySem.W.codeHdIn at hC ⊢
    rw [z] at hC
    rw [lC]
    exact hC
  have X0 : Tx K mg C := ⟨PySem.W.mg_none_of X G z_isinstance, PySem.W.mg_none_of X G z_len, PySem.W.mg_none_of X G z_all, PySem.W.mg_none_of X G z_sorted, PySem.W.mg_none_of X G z_range, PySem.W.mg_none_of X G z_enumerate, PySem.W.mg_none_of X G z_zip, PySem.W.mg_none_of X G z_tuple, PySem.W.mg_none_of X G z_list, PySem.W.mg_none_of X G z_int, PySem.W.mg_none_of X G z_bool, PySem.W.mg_none_of X G z_str, PySem.W.mg_none_of X G z_abs, ⟨_, PySem.W.mg_of X G zA, _, rfl⟩, ⟨_, PySem.W.mg_of X G zB, _, rfl⟩, ⟨pg, hd, po, sa⟩, nP, nM⟩
  have one : ∀ {Q : Addr × Addr → Prop}, Q (cS, pt) → ∀ p ∈ [(cS, pt)], Q p := fun q p hp => by
    rw [List.mem_singleton.mp hp]
    exact q
  refine ⟨PySem.W.fnOf "law" "law" (defArgs s_law) (defBody s_law) (defScope s_law) .none kV0 dc0 pm0 an0 cd0 ct0, [(cS, pt)], sp_law (TbOf pt) K, one hT, one nT, one (PySem.W.codeHd_of_K X hh), fun s v => .of_eq rfl, fun H a ns hl _ hH hS => ⟨a, ns, rfl, fun p hp => ?_, hS, hl, fun _ => rfl⟩, fun base KB nB TBs => ?_⟩
  · rw [List.mem_singleton.mp hp]
    exact LamX.TabS.nil (hH (cS, pt) (List.mem_singleton.mpr rfl))
  have TB := TBs (cS, pt) (List.mem_singleton.mpr rfl)
  have TB : LamX.TabB base mg cS pt := TB
  have cS := cS_
  have k_is_integer : CalF P w K mg base "is_integer" 1 ["value"] (sp_is_integer (TbOf pt)) := g_is_integer.cal X G (fun f fd F => ok_is_integer (T := TbOf pt) F X0) (fun _ _ _ _ _ _ us hl => match us, hl with | [_], _ => rfl)
  have k_is_number : CalF P w K mg base "is_number" 2 ["value"] (sp_is_number (TbOf pt)) := g_is_number.cal X G (fun f fd F => ok_is_number (T := TbOf pt) F k_is_integer) (fun _ _ _ _ _ _ us hl => match us, hl with | [_], _ => rfl)
  have k_is_sequence : CalF P w K mg base "is_sequence" 1 ["value"] (sp_is_sequence (TbOf pt)) := g_is_sequence.cal X G (fun f fd F => ok_is_sequence (T := TbOf pt) F X0) (fun _ _ _ _ _ _ us hl => match us, hl with | [_], _ => rfl)
  have k_is_tuple_of : CalF P w K mg base "is_tuple_of" 1 ["value", "many"] (sp_is_tuple_of (TbOf pt)) := g_is_tuple_of.cal X G (fun f fd F => ok_is_tuple_of (T := TbOf pt) F X0) (fun _ _ _ _ _ _ us hl => match us, hl with | [_, _], _ => rfl)
  have k_consists_of : CalF P w K mg base "consists_of" 1 ["text", "signs"] (sp_consists_of (TbOf pt)) := g_consists_of.cal X G (fun f fd F => ok_consists_of (T := TbOf pt) F X0) (fun _ _ _ _ _ _ us hl => match us, hl with | [_, _], _ => rfl)
  have k_is_name : CalF P w K mg base "is_name" 2 ["value"] (sp_is_name (TbOf pt)) := g_is_name.cal X G (fun f fd F => ok_is_name (T := TbOf pt) F X0 k_consists_of) (fun _ _ _ _ _ _ us hl => match us, hl with | [_], _ => rfl)
  have k_names_of : CalF P w K mg base "names_of" 1 ["people"] (sp_names_of (TbOf pt)) := g_names_of.cal X G (fun f fd F => ok_names_of (T := TbOf pt) F X0) (fun _ _ _ _ _ _ us hl => match us, hl with | [_], _ => rfl)
  have k_is_span : CalF P w K mg base "is_span" 3 ["value"] (sp_is_span (TbOf pt)) := g_is_span.cal X G (fun f fd F => ok_is_span (T := TbOf pt) F k_is_tuple_of k_is_number) (fun _ _ _ _ _ _ us hl => match us, hl with | [_], _ => rfl)
  have k_is_person : CalF P w K mg base "is_person" 4 ["value"] (sp_is_person (TbOf pt)) := g_is_person.cal X G (fun f fd F => ok_is_person (T := TbOf pt) F k_is_tuple_of k_is_number k_is_name k_is_span) (fun _ _ _ _ _ _ us hl => match us, hl with | [_], _ => rfl)
  have k_are_people : CalF P w K mg base "are_people" 5 ["value"] (sp_are_people (TbOf pt)) := g_are_people.cal X G (fun f fd F => ok_are_people (T := TbOf pt) F X0 k_is_sequence k_is_person) (fun _ _ _ _ _ _ us hl => match us, hl with | [_], _ => rfl)
  have k_is_meeting : CalF P w K mg base "is_meeting" 3 ["value", "names"] (sp_is_meeting (TbOf pt) K) := g_is_meeting.cal X G (fun f fd F => ok_is_meeting (T := TbOf pt) F k_is_tuple_of k_is_number) (fun _ _ _ _ _ _ us hl => match us, hl with | [_, _], _ => rfl)
  have k_are_meetings : CalF P w K mg base "are_meetings" 4 ["value", "names"] (sp_are_meetings (TbOf pt) K) := g_are_meetings.cal X G (fun f fd F => ok_are_meetings (T := TbOf pt) F X0 k_is_sequence k_is_meeting) (fun _ _ _ _ _ _ us hl => match us, hl with | [_, _], _ => rfl)
  have FI := finit.fd
  obtain ⟨dI, vI, bI⟩ := FI.binds1 (ps := ["self", "people", "meetings"]) 3 1 (List.cons_ne_nil _ _) rfl (fun T kV doc pm an cdv ct us its h1 h2 => match us, its, h1, h2 with | [_, _, _], [_], _, _ => ⟨_, rfl, rfl⟩)
  cases vI
  have k_INIT : MakF P w K mg base "Plan" C 6 ["self", "people", "meetings"] [] (sp_init (TbOf pt) C) := ⟨_, _, [], ok_init (T := TbOf pt) FI X0 k_are_people k_are_meetings k_names_of, ⟨mk, finit.at_, finit.fn, kc⟩, PySem.W.mg_of X G aC, bI, .nil⟩
  obtain ⟨pp, pg_, pfd, pO, pF⟩ := gnames.ex
  have k_NAMES : PrpF P w K mg base C "names" 2 ["self"] (sp_names (TbOf pt) C) := ⟨pp, pg_, pfd, ok_names (T := TbOf pt) pF X0 k_names_of, pO, pF.binds (fun _ _ _ _ _ _ us hl => match us, hl with | [_], _ => rfl)⟩
  obtain ⟨f_pl, d_pl, M_pl, F_pl⟩ := gplace.ex
  have k_PLACE : MetF P w K mg base C "place" 4 ["self", "name"] (sp_place (TbOf pt) C) := ⟨f_pl, d_pl, ok_place (T := TbOf pt) F_pl X0 k_NAMES, M_pl, F_pl.binds (fun _ _ _ _ _ _ us hl => match us, hl with | [_, _], _ => rfl)⟩
  have k_is_first_one : CalF P w K mg base "is_first_one" 5 ["plan", "value"] (sp_is_first_one (TbOf pt) C) := g_is_first_one.cal X G (fun f fd F => ok_is_first_one (T := TbOf pt) F X0 k_is_tuple_of k_is_number k_NAMES k_PLACE) (fun _ _ _ _ _ _ us hl => match us, hl with | [_, _], _ => rfl)
  have k_check_world : CalF P w K mg base "check_world" 6 ["plan", "world"] (sp_check_world (TbOf pt) C) := g_check_world.cal X G (fun f fd F => ok_check_world (T := TbOf pt) F X0 k_is_sequence k_is_first_one) (fun _ _ _ _ _ _ us hl => match us, hl with | [_, _], _ => rfl)
  have k_is_able : CalF P w K mg base "is_able" 1 ["plan", "place", "start", "day"] (sp_is_able (TbOf pt) C) := g_is_able.cal X G (fun f fd F => ok_is_able (T := TbOf pt) F X0) (fun _ _ _ _ _ _ us hl => match us, hl with | [_, _, _, _], _ => rfl)
  have F_sp := fun_mk (st := s_spread) lS cS kS
  have k_SPREAD : CalF P w K mg base "spread" 5 ["plan", "world"] (sp_spread (TbOf pt) C) := ⟨_, _, ok_spread lS cS X0 TB k_PLACE k_is_able, PySem.W.mg_of X G aS, kS, F_sp.binds (fun _ _ _ _ _ _ us hl => match us, hl with | [_, _], _ => rfl)⟩
  have k_since : CalF P w K mg base "since" 7 ["plan", "world"] (sp_since (TbOf pt) C) := g_since.cal X G (fun f fd F => ok_since (T := TbOf pt) F X0 k_check_world k_SPREAD) (fun _ _ _ _ _ _ us hl => match us, hl with | [_, _], _ => rfl)
  have k_lot_behind : CalF P w K mg base "lot_behind" 8 ["plan", "world", "delays", "day"] (sp_lot_behind (TbOf pt) C) := g_lot_behind.cal X G (fun f fd F => ok_lot_behind (T := TbOf pt) F X0 k_NAMES k_since) (fun _ _ _ _ _ _ us hl => match us, hl with | [_, _, _, _], _ => rfl)
  have k_able : CalF P w K mg base "able" 9 ["plan", "world", "day"] (sp_lot (TbOf pt) C (·.wt)) := g_able.cal X G (fun f fd F => ok_able (T := TbOf pt) F X0 k_lot_behind) (fun _ _ _ _ _ _ us hl => match us, hl with | [_, _, _], _ => rfl)
  have k_shows : CalF P w K mg base "shows" 9 ["plan", "world", "day"] (sp_lot (TbOf pt) C (·.sh)) := g_shows.cal X G (fun f fd F => ok_shows (T := TbOf pt) F X0 k_lot_behind) (fun _ _ _ _ _ _ us hl => match us, hl with | [_, _, _], _ => rfl)
  have k_is_look : CalF P w K mg base "is_look" 4 ["plan", "value"] (sp_is_look (TbOf pt) C) := g_is_look.cal X G (fun f fd F => ok_is_look (T := TbOf pt) F X0 k_is_tuple_of k_is_number k_NAMES) (fun _ _ _ _ _ _ us hl => match us, hl with | [_, _], _ => rfl)
  have k_check_looks : CalF P w K mg base "check_looks" 5 ["plan", "looks"] (sp_check_looks (TbOf pt) C) := g_check_looks.cal X G (fun f fd F => ok_check_looks (T := TbOf pt) F X0 k_is_sequence k_is_look) (fun _ _ _ _ _ _ us hl => match us, hl with | [_, _], _ => rfl)
  have k_latest_shown_start : CalF P w K mg base "latest_shown_start" 5 ["plan", "look"] (sp_late (TbOf pt) C) := g_latest_shown_start.cal X G (fun f fd F => ok_late (T := TbOf pt) F X0 k_PLACE) (fun _ _ _ _ _ _ us hl => match us, hl with | [_, _], _ => rfl)
  have k_holds : CalF P w K mg base "holds" 6 ["plan", "look", "starts"] (sp_holds (TbOf pt) C) := g_holds.cal X G (fun f fd F => ok_holds (T := TbOf pt) F X0 k_PLACE k_latest_shown_start) (fun _ _ _ _ _ _ us hl => match us, hl with | [_, _, _], _ => rfl)
  have k_broken : CalF P w K mg base "broken" 8 ["plan", "looks", "world"] (sp_broken (TbOf pt) C) := g_broken.cal X G (fun f fd F => ok_broken (T := TbOf pt) F X0 k_check_looks k_since k_holds) (fun _ _ _ _ _ _ us hl => match us, hl with | [_, _, _], _ => rfl)
  have k_fits : CalF P w K mg base "fits" 9 ["plan", "looks", "world"] (sp_fits (TbOf pt) C) := g_fits.cal X G (fun f fd F => ok_fits (T := TbOf pt) F X0 k_broken) (fun _ _ _ _ _ _ us hl => match us, hl with | [_, _, _], _ => rfl)
  have k_chain : CalF P w K mg base "chain" 7 ["plan", "world", "name"] (sp_chain (TbOf pt) C) := g_chain.cal X G (fun f fd F => ok_chain (T := TbOf pt) F X0 (PySem.W.mg_none_of X G z_reversed) k_check_world k_SPREAD k_PLACE) (fun _ _ _ _ _ _ us hl => match us, hl with | [_, _, _], _ => rfl)
  have k__law_choose : CalF P w K mg base "_law_choose" 1 ["_law_box", "_law_many"] (sp_choose (TbOf pt)) := g__law_choose.cal X G (fun f fd F => ok_choose (T := TbOf pt) F X0) (fun _ _ _ _ _ _ us hl => match us, hl with | [_, _], _ => rfl)
  have k__law_mixed : CalF P w K mg base "_law_mixed" 2 ["_law_box", "_law_some"] (sp_mixed (TbOf pt)) := g__law_mixed.cal X G (fun f fd F => ok_mixed (T := TbOf pt) F X0 k__law_choose) (fun _ _ _ _ _ _ us hl => match us, hl with | [_, _], _ => rfl)
  have k__law_seed : CalF P w K mg base "_law_seed" 1 ["_law_script", "_law_k"] (sp_seed (TbOf pt) K) := g__law_seed.cal X G (fun f fd F => ok_seed (T := TbOf pt) F X0) (fun _ _ _ _ _ _ us hl => match us, hl with | [_, _], _ => rfl)
  exact ok_law (T := TbOf pt) (fun_mk (st := s_law) l0 c0 k0) X0 (PySem.W.mg_none_of X G z_max) (PySem.W.mg_none_of X G z_min) k__law_seed k__law_mixed k__law_choose k_INIT k_since k_chain k_able k_shows k_broken k_fits
theorem walk {l : PySem.W.OpenLaw} {q : Program} {loose : List Str} {XP : (Str → Option Value) → Heap → Prop} {YP : World → Heap → Prop} {d : DefRec} {K : Params → PySem.W.Frag} (hn : l.most = some 63) (hdf : d.params.defaults = [])
    (hY : ∀ (w : World) (h : Heap), YP w h → (K w.params).In h)
    (F : ∀ (w : World) (mg : Str → Option Value) (fa : Addr) (h : Heap), YP w h → (K w.params).In h → h.Ns mainGlobals mg → mg d.name = some (.ref fa) → LamX.LawAtS l w (K w.params) CX0 10 63 "_law_script" mg fa h) :
    PySem.W.WalkO q loose XP YP l.row.toRowW d [] (fun f vs => PySem.call f vs) :=
  LamX.walk_ofTs (n := 63) (k := 10) (x := "_law_script") (CX := fun _ => CX0) hn (by decide) hdf ⟨rfl, by decide, by decide⟩ hY F fun _ _ _ _ _ z => z
end FB

set_option Elab.async false
set_option maxRecDepth 100000

open PySem PySem.W PyProof.Rows in
set_option maxRecDepth 100000 in
set_option maxHeartbeats 0 in
theorem PySem.Challenge.cw_firstbore_k17_worlds_known_by_hand_holds : PySem.Challenge.rw_firstbore_k17_worlds_known_by_hand.Holds := by
  w_on; o_law; k_head; (case hw => w_witness2)
  k_fill
  refine FB.walk (l := PySem.Challenge.rw_firstbore_k17_worlds_known_by_hand) rfl rfl (fun w h Y => PySem.W.km_in_of Y) ?F
  case F =>
    intro w mg fa h Y KX G hmg
    refine' FB.law_at KX G hmg ?aC ?a0 ?l0 ?c0 ?k0 ?aS ?lS ?cS ?kS ?lC ?hC ?nT ?hT ?pg ?hd ?po ?sa ?mk ?kc ?nP ?nM ?zA ?zB ?fi ?gn ?gp ?g_is_integer ?g_is_number ?g_is_sequence ?g_is_tuple_of ?g_consists_of ?g_is_name ?g_names_of ?g_is_span ?g_is_person ?g_are_people ?g_is_meeting ?g_are_meetings ?g_is_first_one ?g_check_world ?g_is_able ?g_since ?g_lot_behind ?g_able ?g_shows ?g_is_look ?g_check_looks ?g_latest_shown_start ?g_holds ?g_broken ?g_fits ?g_chain ?g__law_choose ?g__law_mixed ?g__law_seed ?z_max ?z_min ?z_reversed ?z_isinstance ?z_len ?z_all ?z_sorted ?z_range ?z_enumerate ?z_zip ?z_tuple ?z_list ?z_int ?z_bool ?z_str ?z_abs
    (case aC => k_is)
    (case a0 => k_is)
    (case l0 => k_is)
    (case c0 => k_is)
    (case k0 => k_is)
    (case aS => k_is)
    (case lS => k_is)
    (case cS => k_is)
    (case kS => k_is)
    (case hT => exact PySem.W.km_tabs_of Y _ (List.mem_singleton.mpr rfl))
    (case lC => k_is)
    (case hC => with_unfolding_all rfl)
    (case nT => exact FB.km_none Y (by decide +kernel))
    (case pg => k_is)
    (case hd => k_is)
    (case po => k_is)
    (case sa => k_is)
    (case mk => k_is)
    (case kc => k_is)
    (case nP => k_is)
    (case nM => k_is)
    (case zA => k_is)
    (case zB => k_is)
    case fi =>
      refine' FB.gi_mk ?a ?i ?l ?c ?k ?d
      (case a => k_is)
      (case i => k_is)
      (case l => k_is)
      (case c => k_is)
      (case k => k_is)
      (case d => k_is)
    case gn =>
      refine' FB.gp_mk ?a ?s ?t ?r ?l ?c ?k
      (case a => k_is)
      (case s => k_is)
      (case t => k_is)
      (case r => k_is)
      (case l => k_is)
      (case c => k_is)
      (case k => k_is)
    case gp =>
      refine' FB.gm_mk ?a ?i ?l ?c ?k
      (case a => k_is)
      (case i => k_is)
      (case l => k_is)
      (case c => k_is)
      (case k => k_is)
    case g_is_integer =>
      refine' FB.gf_mk ?a ?l ?c ?k
      (case a => k_is)
      (case l => k_is)
      (case c => k_is)
      (case k => k_is)
    case g_is_number =>
      refine' FB.gf_mk ?a ?l ?c ?k
      (case a => k_is)
      (case l => k_is)
      (case c => k_is)
      (case k => k_is)
    case g_is_sequence =>
      refine' FB.gf_mk ?a ?l ?c ?k
      (case a => k_is)
      (case l => k_is)
      (case c => k_is)
      (case k => k_is)
    case g_is_tuple_of =>
      refine' FB.gf_mk ?a ?l ?c ?k
      (case a => k_is)
      (case l => k_is)
      (case c => k_is)
      (case k => k_is)
    case g_consists_of =>
      refine' FB.gf_mk ?a ?l ?c ?k
      (case a => k_is)
      (case l => k_is)
      (case c => k_is)
      (case k => k_is)
    case g_is_name =>
      refine' FB.gf_mk ?a ?l ?c ?k
      (case a => k_is)
      (case l => k_is)
      (case c => k_is)
      (case k => k_is)
    case g_names_of =>
      refine' FB.gf_mk ?a ?l ?c ?k
      (case a => k_is)
      (case l => k_is)
      (case c => k_is)
      (case k => k_is)
    case g_is_span =>
      refine' FB.gf_mk ?a ?l ?c ?k
      (case a => k_is)
      (case l => k_is)
      (case c => k_is)
      (case k => k_is)
    case g_is_person =>
      refine' FB.gf_mk ?a ?l ?c ?k
      (case a => k_is)
      (case l => k_is)
      (case c => k_is)
      (case k => k_is)
    case g_are_people =>
      refine' FB.gf_mk ?a ?l ?c ?k
      (case a => k_is)
      (case l => k_is)
      (case c => k_is)
      (case k => k_is)
    case g_is_meeting =>
      refine' FB.gf_mk ?a ?l ?c ?k
      (case a => k_is)
      (case l => k_is)
      (case c => k_is)
      (case k => k_is)
    case g_are_meetings =>
      refine' FB.gf_mk ?a ?l ?c ?k
      (case a => k_is)
      (case l => k_is)
      (case c => k_is)
      (case k => k_is)
    case g_is_first_one =>
      refine' FB.gf_mk ?a ?l ?c ?k
      (case a => k_is)
      (case l => k_is)
      (case c => k_is)
      (case k => k_is)
    case g_check_world =>
      refine' FB.gf_mk ?a ?l ?c ?k
      (case a => k_is)
      (case l => k_is)
      (case c => k_is)
      (case k => k_is)
    case g_is_able =>
      refine' FB.gf_mk ?a ?l ?c ?k
      (case a => k_is)
      (case l => k_is)
      (case c => k_is)
      (case k => k_is)
    case g_since =>
      refine' FB.gf_mk ?a ?l ?c ?k
      (case a => k_is)
      (case l => k_is)
      (case c => k_is)
      (case k => k_is)
    case g_lot_behind =>
      refine' FB.gf_mk ?a ?l ?c ?k
      (case a => k_is)
      (case l => k_is)
      (case c => k_is)
      (case k => k_is)
    case g_able =>
      refine' FB.gf_mk ?a ?l ?c ?k
      (case a => k_is)
      (case l => k_is)
      (case c => k_is)
      (case k => k_is)
    case g_shows =>
      refine' FB.gf_mk ?a ?l ?c ?k
      (case a => k_is)
      (case l => k_is)
      (case c => k_is)
      (case k => k_is)
    case g_is_look =>
      refine' FB.gf_mk ?a ?l ?c ?k
      (case a => k_is)
      (case l => k_is)
      (case c => k_is)
      (case k => k_is)
    case g_check_looks =>
      refine' FB.gf_mk ?a ?l ?c ?k
      (case a => k_is)
      (case l => k_is)
      (case c => k_is)
      (case k => k_is)
    case g_latest_shown_start =>
      refine' FB.gf_mk ?a ?l ?c ?k
      (case a => k_is)
      (case l => k_is)
      (case c => k_is)
      (case k => k_is)
    case g_holds =>
      refine' FB.gf_mk ?a ?l ?c ?k
      (case a => k_is)
      (case l => k_is)
      (case c => k_is)
      (case k => k_is)
    case g_broken =>
      refine' FB.gf_mk ?a ?l ?c ?k
      (case a => k_is)
      (case l => k_is)
      (case c => k_is)
      (case k => k_is)
    case g_fits =>
      refine' FB.gf_mk ?a ?l ?c ?k
      (case a => k_is)
      (case l => k_is)
      (case c => k_is)
      (case k => k_is)
    case g_chain =>
      refine' FB.gf_mk ?a ?l ?c ?k
      (case a => k_is)
      (case l => k_is)
      (case c => k_is)
      (case k => k_is)
    case g__law_choose =>
      refine' FB.gf_mk ?a ?l ?c ?k
      (case a => k_is)
      (case l => k_is)
      (case c => k_is)
      (case k => k_is)
    case g__law_mixed =>
      refine' FB.gf_mk ?a ?l ?c ?k
      (case a => k_is)
      (case l => k_is)
      (case c => k_is)
      (case k => k_is)
    case g__law_seed =>
      refine' FB.gf_mk ?a ?l ?c ?k
      (case a => k_is)
      (case l => k_is)
      (case c => k_is)
      (case k => k_is)
    (case z_max => k_is)
    (case z_min => k_is)
    (case z_reversed => k_is)
    (case z_isinstance => k_is)
    (case z_len => k_is)
    (case z_all => k_is)
    (case z_sorted => k_is)
    (case z_range => k_is)
    (case z_enumerate => k_is)
    (case z_zip => k_is)
    (case z_tuple => k_is)
    (case z_list => k_is)
    (case z_int => k_is)
    (case z_bool => k_is)
    (case z_str => k_is)
    (case z_abs => k_is)

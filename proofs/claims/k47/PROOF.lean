import PyProof.Rows.All
import Wide.All
import OpenK.AllK
import Wide.FinOn
import HandS.ForMost
import HandS.Star
import HandS.NoneIn
import HandS.Property
import HandS.IsInst
import HandS.StrMore
import HandS.FStr
import HandS.DictComp
import HandS.Conv
import HandS.Evl
import HandS.Walk
import HandS.SortRule
import PyProof.Rows.SortKeyStr
import KE.GoesEnumKw
import HandS.Iter
import HandS.Strs
import HandS.SetFor
import HandS.ExcInit
import HandS.ExcOwn
import HandS.WordsExc
import HandS.TryOnly
import HandS.ExcIs
import HandS.ExcField
import HandS.OwnEq
import HandS.Zip
import KE.DatumOrd
import KE.KRevSl
import HandS.Style
import PyProof.Rows.StrRev
import KE.GoesMore
import PyProof.EnumMake
import HandS.TupAny
import HandS.SetKeys
import HandS.TupLen
import KE.KItemsList
import KE.KStar
import HandS.Flt
import HandS.ClsMeth
import HandS.TupLe
import HandS.TryMany
import PyProof.Rows.StrSplitJoin
import PyProof.DelItemList
import PyProof.RulesDelMore
import HandS.Flow
import HandS.Defaults
import HandS.ListItems
import HandS.Finally
import HandS.Lambda
import PyProof.ReprRoads
import HandS.Deep
import HandS.Ends
import HandS.EndTab
import HandS.EndOwn
import KE.KNestM
import PySem.Challenge.RW_enoughpaid_k47_expressions_read
set_option Elab.async false
set_option linter.all false
set_option maxRecDepth 100000
set_option maxHeartbeats 4000000
namespace Bz
open PySem PySem.Spec PyProof.Rows L2
/-! ### a def that keeps its promise, with all that a caller asks -/
structure DefAt (K : PySem.W.Frag) (mg : PySem.Str → Option Value) (x : PySem.Str) (st : Stmt) (ps : List PySem.Str) : Prop where
  ex : ∃ f fd, Fun K x x st f fd ∧ mg x = some (.ref f) ∧ Binds K fd ps []
structure Keeps (P : Program) (w : World) (K : PySem.W.Frag) (mg : PySem.Str → Option Value) (base : Heap) (CX : CXT) (k : Nat) (x : PySem.Str) (ps : List PySem.Str) (sp : Sp) : Prop where
  ex : ∃ f fd, FnOk P w K mg base CX k f fd ps sp ∧ mg x = some (.ref f) ∧ PySem.W.keepIn K (.ref f) = true ∧ Binds K fd ps []
section
variable {P : Program} {w : World} {K : PySem.W.Frag} {mg : PySem.Str → Option Value} {base : Heap} {CX : CXT} {k : Nat} {x : PySem.Str} {st : Stmt} {ps : List PySem.Str} {sp : Sp}
theorem keeps_of (D : DefAt K mg x st ps) (h : ∀ f fd, Fun K x x st f fd → FnOk P w K mg base CX k f fd ps sp) : Keeps P w K mg base CX k x ps sp := by
  obtain ⟨f, fd, F, m, b⟩ := D.ex
  exact ⟨f, fd, h f fd F, m, F.kp, b⟩
/-- the plain way: no error leaves the def -/
theorem keeps0 {N : List PySem.Str} (D : DefAt K mg x st ps) (S : FnScope N ps (defScope st)) (len : ∀ vs H Q E, sp vs H Q E → vs.length = ps.length)
    (hbody : ∀ (f : Addr) (cdv : Value) (A : Around) (outer : List Env) (s : Shared) (H : Hp) (vs : List V) (Q : VK) (E : XK), Room k (A.deeper (envOfC x (defScope st) s.heap.objs.size f cdv)) → sp vs H Q E →
      ∃ t, PSs (cxOf CX0 P w K mg base N x (defScope st) f cdv A outer s H E).nox (defBody st) t ∧ t { nx := fun _ H' => Q .non H', rt := Q } (start N vs) H) : Keeps P w K mg base CX0 (k + 1) x ps sp :=
  keeps_of D fun f fd F => F.ok S len (hbody f)
end
section
variable {X : Cx} {k : Nat} {x : PySem.Str} {ps : List PySem.Str} {sp : Sp} {e : Expr} {es : List Expr} {p pos : Pos} {t : TA}
theorem pe_own {j : Nat} (F : Keeps X.prog X.w X.K X.mg X.base CX0 k x ps sp) (hr : Room j X.A) (ha : PA X (e :: es) t) (hj : k ≤ j := by decide) (hg : Gl X x := by rfl)
    (hdb : (x == ("__debug__" : PySem.Str)) = false := by decide) (he : starEach (e :: es) X.env = (false, eval e X.env) :: starEach es X.env := by rfl) (hpl : (backTo pos (starEach es X.env)).any (·.1) = false := by rfl) :
    PE X (.Call (.Name x p) (e :: es) [] pos) (tCall sp [] E0 t) := by
  obtain ⟨f, fd, G, m, kp, b⟩ := F.ex
  exact pe_call G (hr.mono hj) hg m kp b .nil pass0 ha hdb he hpl
end
/-! ### the rules that speak of the written part, with it told -/
section
variable (K : PySem.W.Frag) {X : Cx}
theorem kix_list (h : X.K = K := by rfl) : IxR X (rIxL K) := by subst h; exact ix_list
theorem kix_tup (h : X.K = K := by rfl) : IxR X (rIxT K) := by subst h; exact ix_tup
theorem kin_seq (h : X.K = K := by rfl) : OpR X (compareOp .In) (rIn K false) := by subst h; exact op_in_seq
theorem knotIn_seq (h : X.K = K := by rfl) : OpR X (compareOp .NotIn) (rIn K true) := by subst h; exact op_notIn_seq
theorem keqD (hu : X.A.units + 64 < cLine) (h : X.K = K := by rfl) : OpR X (compareOp .Eq) (rEqD K) := by subst h; exact op_eqD hu
theorem kneD (hu : X.A.units + 64 < cLine) (h : X.K = K := by rfl) : OpR X (compareOp .NotEq) (rNeD K) := by subst h; exact op_neD hu
theorem kcatT (h : X.K = K := by rfl) : OpR X (binaryOp .Add) (rCatT K) := by subst h; exact op_catT
theorem ksl_list (h : X.K = K := by rfl) : SlR X (rSlL K) := by subst h; exact sl_list
theorem ksl_tup (h : X.K = K := by rfl) : SlR X (rSlT K) := by subst h; exact sl_tup
def rLenK : List V → Hp → VK → Prop := fun xs H Q => ∃ x n, xs = [x] ∧ LenV K x H n ∧ Q (.int n) H
theorem kcall_len (h : X.K = K := by rfl) : CallR X (.builtin "len") (rLenK K) := by subst h; exact call_len
theorem kisi (h : X.K = K := by rfl) : CallR X (.builtin "isinstance") (rIsi K) := by subst h; exact call_isi
theorem kisiT (h : X.K = K := by rfl) : CallR X (.builtin "isinstance") (rIsiT K) := by subst h; exact call_isiT
def rTupOf : List V → Hp → VK → Prop := fun xs H Q => ∃ p ys, xs = [.ref p] ∧ ((SqL K H p ys ∧ ∀ l, H l = none → Q (.ref l) (upd H l (.tup ys))) ∨ (SqT K H p ys ∧ Q (.ref p) H))
theorem ktuple_of (h : X.K = K := by rfl) : CallR X (.type "tuple") (rTupOf K) := by subst h; exact call_tuple_of
def rListOf : List V → Hp → VK → Prop := fun xs H Q => ∃ p ys, xs = [.ref p] ∧ (SqL K H p ys ∨ SqT K H p ys) ∧ ∀ l, H l = none → Q (.ref l) (upd H l (.lst ys))
theorem klist_of (h : X.K = K := by rfl) : CallR X (.type "list") (rListOf K) := by subst h; exact call_list_of
theorem ksortedS (h : X.K = K := by rfl) : CallR X (.builtin "sorted") (rSortedS K) := by subst h; exact cr_sortedS
theorem kpi_list {tg l : Expr} {tl : TE} (hl : PE X l tl) (h : X.K = K := by rfl) : PI X tg l (iList K tl) := by subst h; exact pi_list hl
theorem kpi_tup {tg l : Expr} {tl : TE} (hl : PE X l tl) (h : X.K = K := by rfl) : PI X tg l (iTup K tl) := by subst h; exact pi_tup hl
theorem kpg_tup {pos : Pos} {es : List Expr} {k : Nat} {t : TGs} {n : Nat} (hc : X.calm = true) (hp : PGs X es t)
    (hn : (assignEach es X.env).length = n := by rfl) (hst : (assignEach es X.env).findIdx? (·.1) = none := by rfl) (h : X.K = K := by rfl) : PG X (.Tuple es k pos) (gTup K n t) := by
  subst h
  exact pg_tup hc hp hn hst
theorem kpa_star {e : Expr} {te : TE} {es : List Expr} {t : TA} {p : Pos} (he : PE X e te) (hr : PA X es t) (hs : starEach (.Starred e p :: es) X.env = (true, eval e X.env) :: starEach es X.env := by rfl) (h : X.K = K := by rfl) :
    PA X (.Starred e p :: es) (StX.tStar K te t) := by
  subst h
  exact StX.pa_star he hr hs
def rJoin : V → List V → Hp → VK → Prop := fun x xs H Q => ∃ a p, ∃ ys : List PySem.Str, x = .str a ∧ xs = [.ref p] ∧ (SqL K H p (ys.map V.str) ∨ SqT K H p (ys.map V.str)) ∧ (ys.map (·.length)).sum + ys.length * a.length ≤ 16777216 ∧ Q (.str (Txt.join a ys)) H
theorem kjoin {o e : Expr} {to te : TE} {apos pos : Pos} (ho : PE X o to) (he : PE X e te) (hs : starEach [e] X.env = [(false, eval e X.env)] := by rfl) (hbase : attributeBase o "join" X.env (eval o X.env) = eval o X.env := by rfl) (hline : (apos.endLine == pos.line) = true := by rfl)
    (h : X.K = K := by rfl) : PE X (.Call (.Attribute o "join" apos) [e] [] pos) (tM1 (rJoin K) to te) := by
  subst h
  exact pe_join ho he hs hbase hline
theorem kbm {o e : Expr} {es : List Expr} {to : TE} {t : TA} {name : PySem.Str} {apos cpos : Pos} {T id : String} {r : V → List V → Hp → VK → Prop} (pa : PlainAttrs T) (slot : Slot T name id) (hty : typeOf (.builtin id) = pure (.type "method_descriptor")) (hm : MtR X id r) (ho : PE X o to) (ha : PA X (e :: es) t)
    (hbase : attributeBase o name X.env (eval o X.env) = eval o X.env := by rfl)
    (hfew : ((backTo cpos (starEach (e :: es) X.env)).all (fun x => !x.1) && (backToKw cpos (keywordEach [] X.env)).all (fun x => x.1.isSome)
      && decide ((e :: es).length + ([] : List Keyword).length + (if ([] : List Keyword).isEmpty then 0 else 1) < 30)) = true := by rfl)
    (hline : (apos.endLine == cpos.line) = true := by rfl) (hs : starEach (e :: es) X.env = (false, eval e X.env) :: starEach es X.env := by rfl) (hplain : (backTo cpos (starEach es X.env)).any (·.1) = false := by rfl) (h : X.K = K := by rfl) :
    PE X (.Call (.Attribute o name apos) (e :: es) [] cpos) (tBM K T r to t) := by
  subst h
  exact pe_bm pa slot hty hm ho ha hbase hfew hline hs hplain
theorem kbm0 {o : Expr} {to : TE} {name : PySem.Str} {apos cpos : Pos} {T id : String} {r : V → List V → Hp → VK → Prop} (pa : PlainAttrs T) (slot : Slot T name id) (hty : typeOf (.builtin id) = pure (.type "method_descriptor")) (hm : MtR X id r) (ho : PE X o to)
    (hbase : attributeBase o name X.env (eval o X.env) = eval o X.env := by rfl) (hline : (apos.endLine == cpos.line) = true := by rfl) (h : X.K = K := by rfl) : PE X (.Call (.Attribute o name apos) [] [] cpos) (tBM0 K T r to) := by
  subst h
  exact pe_bm0 pa slot hty hm ho hbase hline
theorem pe_cst {x : PySem.Str} {n : Int} {pos : Pos} (hm : ∃ t, X.mg x = some (.int n t)) (hg : Gl X x := by rfl) (hdb : (x == ("__debug__" : PySem.Str)) = false := by decide) : PE X (.Name x pos) (tC (.int n)) := by
  obtain ⟨t, hm⟩ := hm
  exact pe_glob hg hm ⟨_, rfl⟩ hdb
end
/-! ### heaps -/
/-- only p may differ -/
def But (p : Addr) (H H' : Hp) : Prop := ∀ b, b ≠ p → H' b = H b
theorem But.refl (p : Addr) (H : Hp) : But p H H := fun _ _ => rfl
theorem But.trans {p : Addr} {H H1 H2 : Hp} (a : But p H H1) (b : But p H1 H2) : But p H H2 := fun x n => (b x n).trans (a x n)
theorem But.upd {p : Addr} {H : Hp} {o : HO} : But p H (upd H p o) := fun b h => upd_ne h
/-- what stood apart from p stands: new objects may have come -/
def Ext (p : Addr) (H H' : Hp) : Prop := ∀ b o, b ≠ p → H b = some o → H' b = some o
theorem Ext.refl (p : Addr) (H : Hp) : Ext p H H := fun _ _ _ h => h
theorem Ext.trans {p : Addr} {H H1 H2 : Hp} (a : Ext p H H1) (b : Ext p H1 H2) : Ext p H H2 := fun x o n h => b x o n (a x o n h)
theorem But.ext {p : Addr} {H H' : Hp} (h : But p H H') : Ext p H H' := fun b o n e => (h b n).trans e
theorem Ext.new {p q : Addr} {H : Hp} {o : HO} (h : H q = none) : Ext p H (L2.upd H q o) := fun b u _ e => by
  rw [upd_ne (ne_of_none e h)]
  exact e
/-- an object that H does not know may change -/
theorem Ext.mut {p q : Addr} {H H' : Hp} {o : HO} (e : Ext p H H') (h : H q = none) : Ext p H (L2.upd H' q o) := fun b u n eb => by
  rw [upd_ne (ne_of_none eb h)]
  exact e b u n eb
theorem Ext.sq {p : Addr} {K : PySem.W.Frag} {H H' : Hp} (e : Ext p H H') {a : Addr} {xs : List V} (n : a ≠ p) (h : SqL K H a xs) : SqL K H' a xs := by
  rcases h with (h | ⟨o, h⟩) | h
  · exact .inl (.inl (e _ _ n h))
  · exact .inl (.inr ⟨o, e _ _ n h⟩)
  · exact .inr h
theorem Ext.free {p : Addr} {H H' : Hp} (e : Ext p H H') {l : Addr} (n : l ≠ p) (h : H' l = Option.none) : H l = Option.none := by
  cases q : H l with
  | none => rfl
  | some o =>
    rw [e l o n q] at h
    cases h
theorem same_new {H : Hp} {q : Addr} {o : HO} (h : H q = none) : Same H (L2.upd H q o) := fun b u e => by
  rw [upd_ne (ne_of_none e h)]
  exact e
theorem same_mut {H H' : Hp} {q : Addr} {o : HO} (e : Same H H') (h : H q = none) : Same H (L2.upd H' q o) := fun b u eb => by
  rw [upd_ne (ne_of_none eb h)]
  exact e b u eb
theorem Same.ext {p : Addr} {H H' : Hp} (e : Same H H') : Ext p H H' := fun b o _ h => e b o h
theorem map_int {ns : List Int} {i : Nat} {y : V} (hi : (ns.map V.int)[i]? = some y) : ∃ u, y = V.int u ∧ ns[i]? = some u := by
  rw [List.getElem?_map] at hi
  cases e : ns[i]? with
  | none => rw [e] at hi; cases hi
  | some u => rw [e] at hi; exact ⟨u, (Option.some.inj hi).symm, rfl⟩
theorem map_str {ns : List PySem.Str} {i : Nat} {y : V} (hi : (ns.map V.str)[i]? = some y) : ∃ u, y = V.str u ∧ ns[i]? = some u := by
  rw [List.getElem?_map] at hi
  cases e : ns[i]? with
  | none => rw [e] at hi; cases hi
  | some u => rw [e] at hi; exact ⟨u, (Option.some.inj hi).symm, rfl⟩
/-! ### the source of the draws -/
/-- at p the law's source, with at most c draws so far -/
def Src (H : Hp) (p : Addr) (c : Nat) : Prop := ∃ g s k : Int, H p = some (.lst [.int g, .int s, .int k]) ∧ 0 ≤ s ∧ s < 2147483647 ∧ 0 ≤ k ∧ k ≤ (c : Int)
theorem Src.mono {H : Hp} {p : Addr} {c d : Nat} (h : Src H p c) (hc : c ≤ d) : Src H p d := by
  obtain ⟨g, s, k, e, h1, h2, h3, h4⟩ := h
  exact ⟨g, s, k, e, h1, h2, h3, by omega⟩
theorem Src.here {H : Hp} {p : Addr} {c : Nat} (h : Src H p c) : ∃ o, H p = some o := by
  obtain ⟨g, s, k, e, _⟩ := h
  exact ⟨_, e⟩
theorem Src.ne {H : Hp} {p q : Addr} {c : Nat} (h : Src H p c) (n : H q = none) : q ≠ p := fun z => by
  obtain ⟨g, s, k, e, _⟩ := h
  rw [z, e] at n
  cases n
theorem Src.new {H : Hp} {p q : Addr} {c : Nat} {o : HO} (h : Src H p c) (n : q ≠ p) : Src (upd H q o) p c := by
  obtain ⟨g, s, k, e, h1, h2, h3, h4⟩ := h
  exact ⟨g, s, k, by rw [upd_ne n.symm]; exact e, h1, h2, h3, h4⟩
def spSource (K : PySem.W.Frag) : Sp := fun vs H Q _ => ∃ (a : Addr) (ns : List Int), vs = [.ref a] ∧ SqL K H a (ns.map V.int) ∧ ∀ p H', H p = none → Src H' p 0 → Same H H' → Q (.ref p) H'
def spDraw : Sp := fun vs H Q _ => ∃ (p : Addr) (n : Int) (c : Nat), vs = [.ref p, .int n] ∧ Src H p c ∧ c ≤ 1000000 ∧ 0 < n ∧ n < 1073741824 ∧
  ∀ (r : Int) H', 0 ≤ r → r < n → Src H' p (c + 1) → But p H H' → Q (.int r) H'
def spPick (K : PySem.W.Frag) : Sp := fun vs H Q _ => ∃ (p a : Addr) (xs : List V) (c : Nat), vs = [.ref p, .ref a] ∧ Src H p c ∧ c ≤ 1000000 ∧ SqL K H a xs ∧ a ≠ p ∧ xs ≠ [] ∧ xs.length ≤ 1000000 ∧
  ∀ v H', v ∈ xs → Src H' p (c + 1) → But p H H' → Q v H'
theorem draw_pow {m x : Int} (h1 : 0 ≤ x) (h2 : x ≤ 1000001) : CPow (Int.fmod m 2147483629 * 48271 + 16807 * x * x + 11) 3 := by
  have e1 := Int.fmod_nonneg_of_pos m (b := 2147483629) (by decide)
  have e2 := Int.fmod_lt_of_pos m (b := 2147483629) (by decide)
  have e3 : 16807 * x * x ≤ 16807 * 1000001 * 1000001 := Int.mul_le_mul (by omega) h2 h1 (by omega)
  have e4 : 0 ≤ 16807 * x * x := Int.mul_nonneg (by omega) h1
  exact ⟨by omega, by omega, by omega⟩
/-- slots known by name of the goal's parts -/
theorem atI_of {α : Type} {xs : List α} {r : Int} (h0 : 0 ≤ r) (h1 : r < xs.length) : ∃ v, v ∈ xs ∧ atI xs r = some v := by
  have hlt : r.toNat < xs.length := by omega
  have e : r = ((r.toNat : Nat) : Int) := by omega
  have q : ∀ z : Int, z = ((r.toNat : Nat) : Int) → atI xs z = some xs[r.toNat] := fun z hz => by
    rw [hz]
    exact atI_nat (List.getElem?_eq_getElem hlt)
  exact ⟨xs[r.toNat], List.getElem_mem hlt, q r e⟩
/-! ### tuples that are known to have no attributes of their own -/
def IsFz (u : HO) (xs : List V) : Prop := ∃ o : Obj, u = .frz o (.tup xs) ∧ o.dict = none ∧ o.cls = .type "tuple"
def FzT (H : Hp) (a : Addr) (xs : List V) : Prop := ∃ u, H a = some u ∧ IsFz u xs
theorem FzT.sq {K : PySem.W.Frag} {H : Hp} {a : Addr} {xs : List V} (h : FzT H a xs) : SqT K H a xs := by
  obtain ⟨u, e, o, rfl, _⟩ := h
  exact .inl (.inr ⟨o, e⟩)
theorem FzT.on {H H' : Hp} {a : Addr} {xs : List V} (h : FzT H a xs) (s : Same H H') : FzT H' a xs := by
  obtain ⟨u, e, q⟩ := h
  exact ⟨u, s _ _ e, q⟩
theorem IsFz.nlst {u : HO} {xs : List V} (h : IsFz u xs) : ∀ ys, u ≠ .lst ys := by
  obtain ⟨o, rfl, _⟩ := h
  intro ys z
  cases z
theorem IsFz.nins {u : HO} {xs : List V} (h : IsFz u xs) : ∀ C d fs, u ≠ .ins C d fs := by
  obtain ⟨o, rfl, _⟩ := h
  intro C d fs z
  cases z
theorem FzT.here {H : Hp} {a : Addr} {xs : List V} (h : FzT H a xs) : ∃ o, H a = some o := by
  obtain ⟨u, e, _⟩ := h
  exact ⟨u, e⟩
/-- tuple(l), l a list -/
def rTupOfF (K : PySem.W.Frag) : List V → Hp → VK → Prop := fun xs H Q => ∃ p ys, xs = [.ref p] ∧ SqL K H p ys ∧ ∀ l u, H l = none → IsFz u ys → Q (.ref l) (upd H l u)
theorem call_tuple_F {X : Cx} : CallR X (.type "tuple") (rTupOfF X.K) := by
  intro pins s σ H xs us Q I r h
  obtain ⟨p, ys, rfl, hq, q⟩ := h
  rw [Vals.ref1 r]
  obtain ⟨its, r', pl, hz⟩ := I.list hq
  have hlen := r'.length
  refine call_tuple_list pl.isList (fun h' kp => ?_) (by simp only [List.size_toArray] <;> omega)
  have I1 : Inv X pins σ H { s with heap := h' } := I.kept (t' := s.toks) kp
  have I2 : Inv X pins σ (upd H h'.objs.size (.frz { cls := .type "tuple", data := .seq its.toArray } (.tup ys))) { s with heap := h'.push { cls := .type "tuple", data := .seq its.toArray } } :=
    I1.laid (t' := s.toks) (fun b o e => Heap.get?_push_of_some _ e) (Nat.le_refl _) (show ObjOk X.prog X.w _ _ _ (.frz _ (.tup ys)) from ⟨Heap.get?_push_size _ rfl, hz, its, r', IsTup.new _ _⟩)
  exact ⟨.ref h'.objs.size, _, I2, rfl, q _ _ (I1.hok.fresh (Nat.le_refl _)) ⟨_, rfl, rfl, rfl⟩⟩
theorem ktuple_F (K : PySem.W.Frag) {X : Cx} (h : X.K = K := by rfl) : CallR X (.type "tuple") (rTupOfF K) := by subst h; exact call_tuple_F
/-- o.m(e, ..), o such a tuple -/
def tBMF (r : V → List V → Hp → VK → Prop) (to : TE) (t : TA) : TE := fun σ H Q => to σ H fun x H1 => (∃ p xs, x = .ref p ∧ FzT H1 p xs) ∧ t σ H1 fun xs H2 => r x xs H2 Q
theorem pe_bmF {X : Cx} {o e : Expr} {es : List Expr} {to : TE} {t : TA} {name : PySem.Str} {apos cpos : Pos} {id : String} {r : V → List V → Hp → VK → Prop} (pa : PlainAttrs "tuple") (slot : Slot "tuple" name id) (hty : typeOf (.builtin id) = pure (.type "method_descriptor")) (hm : MtR X id r) (ho : PE X o to) (ha : PA X (e :: es) t)
    (hbase : attributeBase o name X.env (eval o X.env) = eval o X.env := by rfl)
    (hfew : ((backTo cpos (starEach (e :: es) X.env)).all (fun x => !x.1) && (backToKw cpos (keywordEach [] X.env)).all (fun x => x.1.isSome)
      && decide ((e :: es).length + ([] : List Keyword).length + (if ([] : List Keyword).isEmpty then 0 else 1) < 30)) = true := by rfl)
    (hline : (apos.endLine == cpos.line) = true := by rfl) (hs : starEach (e :: es) X.env = (false, eval e X.env) :: starEach es X.env := by rfl) (hplain : (backTo cpos (starEach es X.env)).any (·.1) = false := by rfl) :
    PE X (.Call (.Attribute o name apos) (e :: es) [] cpos) (tBMF r to t) := by
  refine ⟨fun pins s σ H Q I h => ?_⟩
  refine wpAny_Call_method_late hbase hfew hline rfl (thn (ho.run pins s σ H _ I h) fun v s1 ⟨x, H1, I1, r1, ty, q1⟩ => ?_)
  obtain ⟨p, xs, rfl, u, hu, ob, rfl, dn, cl⟩ := ty
  have hp : s1.heap.get? p = some ob := (I1.hok p _ hu).1
  obtain rfl : v = Value.ref p := r1
  refine ⟨"tuple", id, pa, slot, hty, ⟨ob, hp, cl⟩, fun a ea => ?_, ?_⟩
  · cases ea
    exact ⟨ob, hp, dn⟩
  have hA := ha.run cpos pins s1 σ H1 _ I1 q1
  rw [hs] at hA ⊢
  refine Calls.callWith_builtin (by show (false || (backTo cpos (starEach es X.env)).any (·.1)) = false; rw [hplain] <;> rfl) (Calls.evalArgs_plain ?_)
  exact thn hA fun us s2 ⟨vs, H2, I2, r2, q2⟩ => hm pins s2 σ H2 (.ref p) vs (.ref p) us Q I2 rfl r2 q2
end Bz

namespace Bz
open PySem PySem.Spec PyProof.Rows L2
/-! ### how the heap goes on while draws are made -/
structure Go (p : Addr) (c : Nat) (H0 H : Hp) : Prop where
  src : Src H p c
  ext : Ext p H0 H
  old : ∃ o, H0 p = some o
section
variable {p q : Addr} {c d : Nat} {H0 H H1 H2 : Hp} {o : HO} {K : PySem.W.Frag}
theorem Go.start (h : Src H p c) : Go p c H H := ⟨h, .refl p H, h.here⟩
theorem Go.mono (g : Go p c H0 H) (h : c ≤ d) : Go p d H0 H := ⟨g.src.mono h, g.ext, g.old⟩
theorem Go.trans (a : Go p c H0 H1) (b : Go p d H1 H2) : Go p d H0 H2 := ⟨b.src, a.ext.trans b.ext, a.old⟩
theorem Go.nep (g : Go p c H0 H) (n : H0 q = none) : q ≠ p := fun z => by
  obtain ⟨o, e⟩ := g.old
  rw [z, e] at n
  cases n
theorem Go.ne (g : Go p c H0 H) (n : H q = none) : q ≠ p := g.src.ne n
theorem Go.new (g : Go p c H0 H) (n : H q = none) : Go p c H0 (upd H q o) := ⟨g.src.new (g.ne n), g.ext.trans (Ext.new n), g.old⟩
theorem Go.mut (g : Go p c H0 H) (n : H0 q = none) : Go p c H0 (upd H q o) := ⟨g.src.new (g.nep n), g.ext.mut n, g.old⟩
theorem Go.but (g : Go p c H0 H) (s : Src H1 p d) (b : But p H H1) : Go p d H0 H1 := ⟨s, g.ext.trans b.ext, g.old⟩
theorem Go.same (g : Go p c H0 H) (b : Same H H1) : Go p c H0 H1 := by
  obtain ⟨g', s, k, e, r⟩ := g.src
  exact ⟨⟨g', s, k, b _ _ e, r⟩, g.ext.trans (Same.ext b), g.old⟩
theorem Go.get (g : Go p c H0 H) (n : q ≠ p) (e : H0 q = some o) : H q = some o := g.ext q o n e
theorem Go.seq {xs : List V} (g : Go p c H0 H) (n : q ≠ p) (h : SqL K H0 q xs) : SqL K H q xs := g.ext.sq n h
theorem Go.free (g : Go p c H0 H) (h : H q = none) : H0 q = none := g.ext.free (g.ne h) h
end
/-- a comprehension's list at D so far: I by the turn, the list and the heap (whatever D holds) -/
def LcP (D : Addr) (I : Nat → List V → Hp → Prop) (i : Nat) (H : Hp) : Prop := ∃ acc, H D = some (.lst acc) ∧ acc.length ≤ i ∧ I i acc H
section
variable {D : Addr} {I : Nat → List V → Hp → Prop} {i : Nat} {H : Hp} {acc : List V} {y : V}
theorem LcP.put (hst : ∀ i acc H o, I i acc H → I i acc (upd H D o)) (h : H D = some (.lst acc)) (hl : acc.length ≤ i) (hi : i < 1000000) (hI : I (i + 1) (acc ++ [y]) H) :
    ∃ acc, H D = some (.lst acc) ∧ acc.length < sizeLine ∧ LcP D I (i + 1) (upd H D (.lst (acc ++ [y]))) :=
  ⟨acc, h, Nat.lt_of_le_of_lt hl (Nat.lt_of_lt_of_le hi (by decide)), acc ++ [y], upd_same, by rw [List.length_append, List.length_singleton]; omega, hst _ _ _ _ hI⟩
theorem LcP.skip (h : H D = some (.lst acc)) (hl : acc.length ≤ i) (hI : I (i + 1) acc H) : LcP D I (i + 1) H := ⟨acc, h, by omega, hI⟩
end
theorem lcA {J : It} {n : Nat} {G : Hp → Prop} {Y : Nat → Hp → V → Hp → Prop} (w : Walk J n G Y) {g : TG} {tt : TT} {te : TE} {vs : List Nat} {σ : L2.St} {H1 : Hp} {D : Addr} {Qd : Hp → Prop} (I : Nat → List V → Hp → Prop) (h0 : I 0 [] H1)
    (hst : ∀ i acc H o, I i acc H → I i acc (upd H D o)) (hG : ∀ i acc H, i ≤ n → I i acc H → G H)
    (hs : ∀ i x acc H H', i < n → I i acc H → H D = some (.lst acc) → acc.length ≤ i → Y i H x H' → g x (wipe σ vs) H' fun σ2 H2 => wipe σ2 vs = wipe σ vs ∧ tt σ2 H2 fun b H3 =>
      if b = true then te σ2 H3 fun y H4 => ∃ acc, H4 D = some (.lst acc) ∧ acc.length < sizeLine ∧ LcP D I (i + 1) (upd H4 D (.lst (acc ++ [y]))) else LcP D I (i + 1) H3)
    (hd : ∀ acc H, I n acc H → H D = some (.lst acc) → acc.length ≤ n → Qd H) :
    ∃ W : Nat → Nat → Hp → Prop, (∃ m, W 0 m (upd H1 D (.lst []))) ∧ ∀ i m H, W i m H →
      (J.stop i H ∧ Qd H) ∨ (J.go i H ∧ ∃ Nx : Hp → Prop, (∀ H', Nx H' → ∃ m', m' < m ∧ W (i + 1) m' H') ∧ ∀ x H', J.yld i H x H' → g x (wipe σ vs) H' fun σ2 H2 => wipe σ2 vs = wipe σ vs ∧ tt σ2 H2 fun b H3 =>
        if b = true then te σ2 H3 fun y H4 => ∃ acc, H4 D = some (.lst acc) ∧ acc.length < sizeLine ∧ Nx (upd H4 D (.lst (acc ++ [y]))) else Nx H3) :=
  lc_it w (LcP D I) ⟨[], upd_same, Nat.le_refl _, hst _ _ _ _ h0⟩ (fun i H hi ⟨acc, _, _, hI⟩ => hG i acc H hi hI) (fun i x H H' hi ⟨acc, hA, hl, hI⟩ hy => hs i x acc H H' hi hI hA hl hy) (fun H ⟨acc, hA, hl, hI⟩ => hd acc H hI hA hl)
/-! ### names -/
def Sg (c : Nat) : Prop := 97 ≤ c ∧ c ≤ 122
def Nm (s : PySem.Str) : Prop := 1 ≤ s.length ∧ s.length ≤ 8 ∧ ∀ c ∈ TL.tl s, Sg c
def nmB (s : PySem.Str) : Bool := decide (1 ≤ s.length) && decide (s.length ≤ 8) && (TL.tl s).all fun c => decide (97 ≤ c) && decide (c ≤ 122)
theorem nmB_iff {s : PySem.Str} : nmB s = true ↔ Nm s := by
  unfold nmB Nm Sg
  simp only [Bool.and_eq_true, decide_eq_true_eq, List.all_eq_true]
  exact ⟨fun ⟨⟨a, b⟩, c⟩ => ⟨a, b, c⟩, fun ⟨a, b, c⟩ => ⟨⟨a, b⟩, c⟩⟩
theorem len_tl (s : PySem.Str) : s.length = (TL.tl s).length := by
  show s.cps.size = s.cps.toList.length
  rw [Array.length_toList]
theorem ext_tl {x y : PySem.Str} (h : TL.tl x = TL.tl y) : x = y := by
  obtain ⟨a⟩ := x
  obtain ⟨b⟩ := y
  have e : a = b := Array.toList_inj.mp h
  rw [e]
theorem joinL_nil : ∀ ls : List (List Nat), TL.joinL [] ls = ls.flatten
  | [] => rfl
  | [p] => by show p = [p].flatten; simp
  | p :: q :: r => by
    show p ++ ([] ++ TL.joinL [] (q :: r)) = _
    rw [joinL_nil (q :: r)]
    simp
theorem tl_join0 (ys : List PySem.Str) : TL.tl (Txt.join "" ys) = (ys.map TL.tl).flatten := by
  rw [TL.join_eq, TL.tl_join]
  exact joinL_nil _
theorem inV_str {x : PySem.Str} {ys : List PySem.Str} : inV (.str x) (ys.map V.str) = decide (x ∈ ys) := by
  unfold inV
  rw [List.any_map]
  rw [Bool.eq_iff_iff, decide_eq_true_eq, List.any_eq_true]
  constructor
  · rintro ⟨y, hy, e⟩
    have e' : y = x := by
      first
      | exact of_decide_eq_true e
      | exact eq_of_beq e
      | (simp [eqV] at e; exact e)
    rw [← e']
    exact hy
  · intro h
    refine ⟨x, h, ?_⟩
    first
    | exact decide_eq_true rfl
    | (simp [eqV])
theorem flat_str (ys : List PySem.Str) : (ys.map V.str).all flatV = true := by
  rw [List.all_eq_true]
  intro v hv
  obtain ⟨y, _, rfl⟩ := List.mem_map.mp hv
  rfl
theorem join_signs {ys : List PySem.Str} (h : ∀ y ∈ ys, ∃ ch, TL.tl y = [ch] ∧ Sg ch) : (Txt.join "" ys).length = ys.length ∧ ∀ c ∈ TL.tl (Txt.join "" ys), Sg c := by
  rw [len_tl, tl_join0]
  induction ys with
  | nil => exact ⟨rfl, fun c hc => by cases hc⟩
  | cons y ys ih =>
    obtain ⟨ch, e, hs⟩ := h y (List.mem_cons_self ..)
    obtain ⟨i1, i2⟩ := ih fun z hz => h z (List.mem_cons_of_mem _ hz)
    rw [List.map_cons, List.flatten_cons, e]
    refine ⟨by simp only [List.singleton_append, List.length_cons, i1], fun c hc => ?_⟩
    rcases List.mem_append.mp hc with hc | hc
    · rw [List.mem_singleton.mp hc]; exact hs
    · exact i2 c hc
theorem nm_lit {s : PySem.Str} (h : nmB s = true) : Nm s := nmB_iff.mp h
theorem sIx_nat {n d k : Nat} (h : k ≤ n) : HT.sIx n d (some (k : Int)) = k := by
  unfold HT.sIx
  simp only
  split <;> omega
theorem tl_cut1 (z : PySem.Str) (h : 1 ≤ z.length) : TL.tl (cutS z (some 1) none) = (TL.tl z).drop 1 := by
  have e1 : HT.sIx z.length 0 (some 1) = 1 := sIx_nat (k := 1) h
  have e2 : HT.sIx z.length z.length none = z.length := rfl
  unfold cutS
  show (List.take (HT.sIx z.length z.length none - HT.sIx z.length 0 (some 1)) (List.drop (HT.sIx z.length 0 (some 1)) z.cps.toList)).toArray.toList = _
  rw [e1, e2]
  show List.take (z.length - 1) (List.drop 1 z.cps.toList) = List.drop 1 z.cps.toList
  have el := len_tl z
  have el' : z.length = z.cps.toList.length := el
  exact List.take_of_length_le (by rw [List.length_drop, el']; omega)
theorem nm_q {s : PySem.Str} (h : Nm s) (h4 : 2 ≤ s.length) (h8 : s.length ≤ 8) : Nm ("q" ++ cutS s (some 1) none) := by
  have e : TL.tl ("q" ++ cutS s (some 1) none) = 113 :: (TL.tl s).drop 1 := by
    rw [TL.tl_append, tl_cut1 s (by omega)]
    rfl
  have el := len_tl s
  refine ⟨?_, ?_, ?_⟩
  · rw [len_tl, e, List.length_cons]; omega
  · rw [len_tl, e, List.length_cons, List.length_drop]; omega
  · rw [e]
    intro c hc
    rcases List.mem_cons.mp hc with rfl | hc
    · exact ⟨by omega, by omega⟩
    · exact h.2.2 c (List.mem_of_mem_drop hc)
theorem nodup_le {α : Type} [DecidableEq α] : ∀ {L ts : List α}, L.Nodup → (∀ s ∈ L, s ∈ ts) → L.length ≤ ts.length
  | [], _, _, _ => Nat.zero_le _
  | a :: L, ts, hn, hs => by
    have ha := hs a (List.mem_cons_self ..)
    obtain ⟨h1, h2⟩ := List.nodup_cons.mp hn
    have ih := nodup_le (ts := ts.erase a) h2 fun s hsL => by
      have ne : s ≠ a := fun e => h1 (e ▸ hsL)
      exact (List.mem_erase_of_ne ne).mpr (hs s (List.mem_cons_of_mem _ hsL))
    rw [List.length_erase_of_mem ha] at ih
    have := List.length_pos_of_mem ha
    rw [List.length_cons]
    omega
theorem z_names {ts L : List PySem.Str} (h : ts.length ≤ 16) (hl : L.length = 17) (hn : L.Nodup) : ∃ s ∈ L, s ∉ ts := by
  refine Classical.byContradiction fun c => ?_
  have q := nodup_le hn fun s hs => Classical.byContradiction fun q => c ⟨s, hs, q⟩
  omega
theorem ab_sg {ch : Nat} (h : ch ∈ (("abcdefghijklmnopqrstuvwxyz" : PySem.Str)).cps.toList) : Sg ch := by
  have q : ((("abcdefghijklmnopqrstuvwxyz" : PySem.Str)).cps.toList.all fun c => decide (97 ≤ c) && decide (c ≤ 122)) = true := by decide +kernel
  have z := List.all_eq_true.mp q ch h
  simp only [Bool.and_eq_true, decide_eq_true_eq] at z
  exact z
/-- a name of a law's own choice where a drawn one is taken -/
def zNames : List PySem.Str := (("abcdefghijklmnopq" : PySem.Str)).cps.toList.map fun ch => "z" ++ (⟨#[ch]⟩ : PySem.Str)
theorem zNames_len : zNames.length = 17 := by decide +kernel
theorem zNames_nd : zNames.Nodup := by decide +kernel
theorem zNames_nm : ∀ s ∈ zNames, Nm s := by
  have q : (zNames.all fun s => nmB s) = true := by decide +kernel
  exact fun s hs => nm_lit (List.all_eq_true.mp q s hs)
theorem az_size : ((("abcdefghijklmnopq" : PySem.Str)).cps).size = 17 := by decide +kernel
theorem zNames_step {i : Nat} {ch : Nat} (h : ((("abcdefghijklmnopq" : PySem.Str)).cps)[i]? = some ch) : zNames.take (i + 1) = zNames.take i ++ ["z" ++ (⟨#[ch]⟩ : PySem.Str)] := by
  have e : zNames[i]? = some ("z" ++ (⟨#[ch]⟩ : PySem.Str)) := by
    unfold zNames
    rw [List.getElem?_map, Array.getElem?_toList, h]
    rfl
  rw [List.take_add_one, e]
  rfl
theorem z_size (ch : Nat) : (("z" : PySem.Str)).length + ((⟨#[ch]⟩ : PySem.Str)).length ≤ sizeLine := by
  have e : (("z" : PySem.Str)).length = 1 := by decide +kernel
  have e2 : ((⟨#[ch]⟩ : PySem.Str)).length = 1 := rfl
  rw [e, e2]
  exact Evl.sz_of (by omega)
theorem letters_of {ys : List PySem.Str} (h : ∀ y ∈ ys, ∃ ch, TL.tl y = [ch] ∧ Sg ch) : (ys.map (·.length)).sum = ys.length := by
  induction ys with
  | nil => rfl
  | cons y ys ih =>
    obtain ⟨ch, e, _⟩ := h y (List.mem_cons_self ..)
    have e1 : y.length = 1 := by rw [len_tl, e]; rfl
    rw [List.map_cons, List.sum_cons, ih fun z hz => h z (List.mem_cons_of_mem _ hz), e1, List.length_cons]
    omega
/-! ### promises of the drawing helpers -/
def spSubset (K : PySem.W.Frag) : Sp := fun vs H Q _ => ∃ (p a : Addr) (xs : List V) (c : Nat), vs = [.ref p, .ref a] ∧ Src H p c ∧ c + xs.length ≤ 1000000 ∧ SqL K H a xs ∧ a ≠ p ∧
  ∀ (q : Addr) (ys : List V) (H' : Hp), H q = none → H' q = some (.lst ys) → (∀ y ∈ ys, y ∈ xs) → ys.length ≤ xs.length → Go p (c + xs.length) H H' → Q (.ref q) H'
def spName (K : PySem.W.Frag) : Sp := fun vs H Q _ => ∃ (p a : Addr) (ts : List PySem.Str) (c : Nat), vs = [.ref p, .ref a] ∧ Src H p c ∧ c ≤ 900000 ∧ SqL K H a (ts.map V.str) ∧ a ≠ p ∧ ts.length ≤ 16 ∧
  ∀ (s : PySem.Str) (H' : Hp), Nm s → s ∉ ts → Go p (c + 12) H H' → Q (.str s) H'
def spNames : Sp := fun vs H Q _ => ∃ (p : Addr) (n : Int) (c : Nat), vs = [.ref p, .int n] ∧ Src H p c ∧ c ≤ 800000 ∧ 0 ≤ n ∧ n ≤ 16 ∧
  ∀ (q : Addr) (ns : List PySem.Str) (H' : Hp), H q = none → H' q = some (.lst (ns.map V.str)) → (∀ s ∈ ns, Nm s) → (ns.length : Int) = n → ns.Nodup → Go p (c + 12 * n.toNat) H H' → Q (.ref q) H'
/-! ### arrows -/
structure Arw where
  s : PySem.Str
  l : PySem.Str
  t : PySem.Str
  c : Int
  deriving DecidableEq
abbrev Arw.vals (x : Arw) : List V := [.str x.s, .str x.l, .str x.t, .int x.c]
/-- at v stands the arrow x, a tuple -/
def ArT (K : PySem.W.Frag) (H : Hp) (v : V) (x : Arw) : Prop := ∃ q, v = .ref q ∧ H q = some (.tup x.vals)
/-- a list of arrows, tuples all: none of them at p -/
def ArTs (K : PySem.W.Frag) (p : Addr) (H : Hp) (vs : List V) (xs : List Arw) : Prop := Paired (fun v x => ∃ q, v = V.ref q ∧ q ≠ p ∧ H q = some (.tup x.vals)) vs xs
theorem ArTs.ext {K : PySem.W.Frag} {p : Addr} {H H' : Hp} {vs : List V} {xs : List Arw} (h : ArTs K p H vs xs) (e : Ext p H H') : ArTs K p H' vs xs :=
  Paired.mapP h fun v x ⟨q, ev, n, hq⟩ => ⟨q, ev, n, e q _ n hq⟩
theorem ArTs.snoc {K : PySem.W.Frag} {p : Addr} {H : Hp} {vs : List V} {xs : List Arw} {q : Addr} {x : Arw} (h : ArTs K p H vs xs) (n : q ≠ p) (hq : H q = some (.tup x.vals)) : ArTs K p H (vs ++ [.ref q]) (xs ++ [x]) := by
  induction h with
  | nil => exact .cons ⟨q, rfl, n, hq⟩ .nil
  | cons a r ih => exact .cons a ih
/-- well made: names, a letter, a price -/
def Lt (s : PySem.Str) : Prop := s.length = 1 ∧ ∀ c ∈ TL.tl s, Sg c
structure Arw.Ok (x : Arw) : Prop where
  s : Nm x.s
  l : Lt x.l
  t : Nm x.t
  c0 : 0 ≤ x.c
  c1 : x.c ≤ 99
def spArrows (K : PySem.W.Frag) : Sp := fun vs H Q _ => ∃ (p a b : Addr) (ss ls : List PySem.Str) (n : Int) (c : Nat), vs = [.ref p, .ref a, .ref b, .int n] ∧ Src H p c ∧ c ≤ 500000 ∧ a ≠ p ∧ b ≠ p ∧
  SqL K H a (ss.map V.str) ∧ SqL K H b (ls.map V.str) ∧ ss ≠ [] ∧ ls ≠ [] ∧ ss.length ≤ 100 ∧ ls.length ≤ 100 ∧ 0 < n ∧ n ≤ 100 ∧
  ∀ (q : Addr) (vs : List V) (xs : List Arw) (H' : Hp), H q = none → H' q = some (.lst vs) → ArTs K p H' vs xs → (∀ x ∈ xs, x.s ∈ ss ∧ x.l ∈ ls ∧ x.t ∈ ss ∧ 0 ≤ x.c ∧ x.c ≤ 9) → 1 ≤ xs.length → (xs.length : Int) ≤ n → Go p (c + 1 + 4 * n.toNat) H H' → Q (.ref q) H'
/-- [pick(names)] + subset(names), names at slot j -/
theorem some_names {K : PySem.W.Frag} {p a : Addr} {ns : List PySem.Str} {c : Nat} {H0 H : Hp} {j : Nat} {σ : L2.St} {R : VK} (h0 : σ[0]? = some (some (.ref p))) (hj : σ[j]? = some (some (.ref a))) (g : Go p c H0 H) (hc : c + ns.length + 1 ≤ 900000) (na : a ≠ p) (ha : SqL K H a (ns.map V.str)) (n0 : ns ≠ []) (n1 : ns.length ≤ 100)
    (k : ∀ (q : Addr) (ss : List PySem.Str) (H' : Hp), H q = none → H' q = some (.lst (ss.map V.str)) → (∀ s ∈ ss, s ∈ ns) → 1 ≤ ss.length → ss.length ≤ ns.length + 1 → Go p (c + ns.length + 1) H H' → R (.ref q) H') :
    tOp rCat (tLst (tCons (tCall (spPick K) [] E0 (tCons (tVar 0) (tCons (tVar j) tNil))) tNil)) (tCall (spSubset K) [] E0 (tCons (tVar 0) (tCons (tVar j) tNil))) σ H R := by
  refine ⟨_, h0, _, hj, p, a, ns.map V.str, c, rfl, g.src, by omega, ha, na, by simpa using n0, by rw [List.length_map]; omega, fun v H1 hv hS1 hb1 => ?_⟩
  obtain ⟨s0, hs0, rfl⟩ := List.mem_map.mp hv
  have g1 : Go p (c + 1) H H1 := (Go.start g.src).but hS1 hb1
  refine ⟨Nat.le_of_ble_eq_true rfl, fun l hl => ?_⟩
  have g2 : Go p (c + 1) H (upd H1 l (.lst [.str s0])) := g1.new hl
  refine ⟨_, h0, _, hj, p, a, ns.map V.str, c + 1, rfl, g2.src, by rw [List.length_map]; omega, g2.seq na ha, na, fun b ys H3 hb h3 hm hlen g3 => ?_⟩
  obtain ⟨ss, rfl⟩ : ∃ ss : List PySem.Str, ys = ss.map V.str := by
    clear h3 hlen
    induction ys with
    | nil => exact ⟨[], rfl⟩
    | cons y ys ih =>
      obtain ⟨ss, e⟩ := ih fun z hz => hm z (List.mem_cons_of_mem _ hz)
      obtain ⟨s, _, e1⟩ := List.mem_map.mp (hm y (List.mem_cons_self ..))
      exact ⟨s :: ss, by rw [e, ← e1]; rfl⟩
  rw [List.length_map] at hlen
  rw [List.length_map] at hlen
  have h3l : H3 l = some (.lst [.str s0]) := g3.get (g1.ne hl) upd_same
  refine ⟨l, b, [.str s0], ss.map V.str, rfl, rfl, h3l, h3, ?_, fun q hq => ?_⟩
  · rw [List.length_map]
    exact Evl.sz_of (by simp; omega)
  · have gq : Go p (c + ns.length + 1) H H3 := (g2.trans g3).mono (by rw [List.length_map]; omega)
    refine k q (s0 :: ss) _ (gq.free hq) upd_same (fun s hs => ?_) (by simp) (by simp; omega) (gq.new hq)
    rcases List.mem_cons.mp hs with rfl | hs
    · exact hs0
    · obtain ⟨s', h1, h2⟩ := List.mem_map.mp (hm (.str s) (List.mem_map.mpr ⟨s, hs, rfl⟩))
      have e : s' = s := V.str.inj h2
      rw [← e]
      exact h1
theorem cutV_take {xs : List V} {k : Nat} (h : k ≤ xs.length) : cutV xs none (some (k : Int)) = xs.take k := by
  unfold cutV
  have e1 : HT.sIx xs.length 0 none = 0 := rfl
  have e2 : HT.sIx xs.length xs.length (some (k : Int)) = k := sIx_nat h
  rw [e1, e2]
  rfl
/-- what a law's machine is made of, at q, a tuple of three lists -/
def Made (K : PySem.W.Frag) (p : Addr) (H : Hp) (q : Addr) (xs : List Arw) (ss es : List PySem.Str) : Prop :=
  ∃ (a1 a2 a3 : Addr) (vs : List V), q ≠ p ∧ a1 ≠ p ∧ a2 ≠ p ∧ a3 ≠ p ∧ H q = some (.tup [.ref a1, .ref a2, .ref a3]) ∧ H a1 = some (.lst vs) ∧ ArTs K p H vs xs ∧ H a2 = some (.lst (ss.map V.str)) ∧ H a3 = some (.lst (es.map V.str))
theorem Made.ext {K : PySem.W.Frag} {p q : Addr} {H H' : Hp} {xs : List Arw} {ss es : List PySem.Str} (m : Made K p H q xs ss es) (e : Ext p H H') : Made K p H' q xs ss es := by
  obtain ⟨a1, a2, a3, vs, nq, n1, n2, n3, hq, h1, hA, h2, h3⟩ := m
  exact ⟨a1, a2, a3, vs, nq, n1, n2, n3, e _ _ nq hq, e _ _ n1 h1, hA.ext e, e _ _ n2 h2, e _ _ n3 h3⟩
structure MOk (xs : List Arw) (ss es : List PySem.Str) (m n : Int) : Prop where
  nms : ∃ ns : List PySem.Str, (∀ s ∈ ns, Nm s) ∧ (ns.length : Int) ≤ m ∧ ns.Nodup ∧ (∀ x ∈ xs, x.s ∈ ns ∧ x.t ∈ ns) ∧ (∀ s ∈ ss, s ∈ ns) ∧ ∀ s ∈ es, s ∈ ns
  lets : ∀ x ∈ xs, x.l ∈ (["a", "b", "c", "d"] : List PySem.Str)
  cost : ∀ x ∈ xs, 0 ≤ x.c ∧ x.c ≤ 9
  len : 1 ≤ xs.length ∧ (xs.length : Int) ≤ n
  slen : 1 ≤ ss.length ∧ (ss.length : Int) ≤ m + 1
  elen : 1 ≤ es.length ∧ (es.length : Int) ≤ m + 1
def spMachine (K : PySem.W.Frag) : Sp := fun vs H Q _ => ∃ (p : Addr) (m g n : Int) (c : Nat), vs = [.ref p, .int m, .int g, .int n] ∧ Src H p c ∧ c ≤ 300000 ∧ 0 < m ∧ m ≤ 8 ∧ 0 < g ∧ g ≤ 4 ∧ 0 < n ∧ n ≤ 20 ∧
  ∀ (q : Addr) (xs : List Arw) (ss es : List PySem.Str) (H' : Hp), H q = none → Made K p H' q xs ss es → MOk xs ss es m n → Go p (c + 300) H H' → Q (.ref q) H'
end Bz

namespace Bz
open PySem PySem.Spec PyProof.Rows L2
/-! ### sorted, of tuples of texts and ints -/
abbrev Ky := L2.Key
def ltK : Ky → Ky → Bool
  | .inl a, .inl b => decide (a < b)
  | .inr a, .inr b => decide (a.cps.toList < b.cps.toList)
  | .inl _, .inr _ => true
  | .inr _, .inl _ => false
def lexK : List Ky → List Ky → Bool
  | [], [] => false
  | [], _ :: _ => true
  | _ :: _, [] => false
  | a :: as, b :: bs => if a = b then lexK as bs else ltK a b
def isL : Ky → Bool
  | .inl _ => true
  | .inr _ => false
theorem strs_eq {a b : PySem.Str} (h : a.cps.toList = b.cps.toList) : a = b := ext_tl h
theorem ltK_irr (a : Ky) : ltK a a = false := by
  cases a with
  | inl a => exact decide_eq_false (Int.lt_irrefl _)
  | inr a => exact decide_eq_false (List.lt_irrefl _)
theorem ltK_asym {a b : Ky} (h : ltK a b = true) : ltK b a = false := by
  cases a with
  | inl a =>
    cases b with
    | inl b =>
      have z : a < b := of_decide_eq_true h
      exact decide_eq_false (by omega)
    | inr b => rfl
  | inr a =>
    cases b with
    | inl b => cases h
    | inr b =>
      have z : a.cps.toList < b.cps.toList := of_decide_eq_true h
      exact decide_eq_false fun q => List.lt_irrefl _ (List.lt_trans z q)
theorem ltK_tot {a b : Ky} (h : ltK a b = false) (n : a ≠ b) : ltK b a = true := by
  cases a with
  | inl a =>
    cases b with
    | inl b =>
      have z : ¬ a < b := of_decide_eq_false h
      have n' : a ≠ b := fun e => n (by rw [e])
      exact decide_eq_true (by omega)
    | inr b => cases h
  | inr a =>
    cases b with
    | inl b => rfl
    | inr b =>
      have z : ¬ a.cps.toList < b.cps.toList := of_decide_eq_false h
      have n' : a.cps.toList ≠ b.cps.toList := fun e => n (by rw [strs_eq e])
      refine decide_eq_true ?_
      have q : b.cps.toList ≤ a.cps.toList := List.not_lt.mp z
      exact Classical.byContradiction fun c => n' (List.le_antisymm (List.not_lt.mp c) q)
theorem ltK_trans {a b c : Ky} (h : ltK a b = true) (k : ltK b c = true) : ltK a c = true := by
  cases a with
  | inl a =>
    cases b with
    | inl b =>
      cases c with
      | inl c =>
        have z : a < b := of_decide_eq_true h
        have y : b < c := of_decide_eq_true k
        exact decide_eq_true (by omega)
      | inr c => rfl
    | inr b =>
      cases c with
      | inl c => cases k
      | inr c => rfl
  | inr a =>
    cases b with
    | inl b => cases h
    | inr b =>
      cases c with
      | inl c => cases k
      | inr c =>
        have z : a.cps.toList < b.cps.toList := of_decide_eq_true h
        have y : b.cps.toList < c.cps.toList := of_decide_eq_true k
        exact decide_eq_true (List.lt_trans z y)
theorem lexK_irr : ∀ a : List Ky, lexK a a = false
  | [] => rfl
  | a :: as => by unfold lexK; rw [if_pos rfl]; exact lexK_irr as
theorem lexK_asym : ∀ {a b : List Ky}, lexK a b = true → lexK b a = false
  | [], [], h => by cases h
  | [], _ :: _, _ => rfl
  | _ :: _, [], h => by cases h
  | a :: as, b :: bs, h => by
    unfold lexK at h ⊢
    by_cases e : a = b
    · rw [if_pos e] at h
      rw [if_pos e.symm]
      exact lexK_asym h
    · rw [if_neg e] at h
      rw [if_neg fun z => e z.symm]
      exact ltK_asym h
theorem lexK_tot : ∀ {a b : List Ky}, lexK a b = false → a ≠ b → lexK b a = true
  | [], [], _, n => absurd rfl n
  | [], _ :: _, h, _ => by cases h
  | _ :: _, [], _, _ => rfl
  | a :: as, b :: bs, h, n => by
    unfold lexK at h ⊢
    by_cases e : a = b
    · rw [if_pos e] at h
      rw [if_pos e.symm]
      exact lexK_tot h fun z => n (by rw [e, z])
    · rw [if_neg e] at h
      rw [if_neg fun z => e z.symm]
      exact ltK_tot h e
theorem lexK_trans : ∀ {a b c : List Ky}, lexK a b = true → lexK b c = true → lexK a c = true
  | [], _, [], h, k => by
    rename_i b
    cases b with
    | nil => cases h
    | cons _ _ => cases k
  | [], _, _ :: _, _, _ => rfl
  | _ :: _, [], _, h, _ => by cases h
  | _ :: _, _ :: _, [], _, k => by cases k
  | a :: as, b :: bs, c :: cs, h, k => by
    unfold lexK at h k ⊢
    by_cases e : a = b
    · rw [if_pos e] at h
      subst e
      by_cases e2 : a = c
      · rw [if_pos e2] at k ⊢
        exact lexK_trans h k
      · rw [if_neg e2] at k ⊢
        exact k
    · rw [if_neg e] at h
      by_cases e2 : b = c
      · subst e2
        rw [if_neg e]
        exact h
      · rw [if_neg e2] at k
        have t := ltK_trans h k
        have ne : a ≠ c := fun z => by rw [z, ltK_irr] at t; cases t
        rw [if_neg ne]
        exact t
theorem lexK_swo {α : Type} (k : α → List Ky) : SrtO.Swo fun x y => lexK (k x) (k y) := by
  refine ⟨fun x y h => lexK_asym h, fun x y z h1 h2 => ?_⟩
  -- lt y x = false, lt z y = false → lt z x = false
  rcases Bool.eq_false_or_eq_true (lexK (k z) (k x)) with q | q
  · by_cases e : k y = k x
    · rw [← e, h2] at q
      cases q
    · have t := lexK_tot h1 e
      have t2 := lexK_trans q t
      rw [h2] at t2
      cases t2
  · exact q
section
variable {prog : Program} {w : World} {A : Around} {E : Value → Shared → Prop} {s : Shared}
theorem key_eq : ∀ {a b : Ky} {u v : Value}, isL a = isL b → RelV (kV a) u → RelV (kV b) v → ∀ {Q : Bool → Shared → Prop}, Q (decide (a = b)) s → wpAny (model prog w) A (eqBool u v) Q E s
  | .inl a, .inl b, _, _, _, ⟨t, rfl⟩, ⟨t', rfl⟩, Q, h => SeqAt.EqAt.int_int a t b t' prog w _ _ (by
      have e : decide ((Sum.inl a : Ky) = Sum.inl b) = (a == b) := key_ll a b
      rw [← e]
      exact h)
  | .inr a, .inr b, _, _, _, ⟨t, rfl⟩, ⟨t', rfl⟩, Q, h => SeqAt.EqAt.str_str a t b t' prog w _ _ (by
      have e : decide ((Sum.inr a : Ky) = Sum.inr b) = (a == b) := by rw [key_rr]; rfl
      rw [← e]
      exact h)
  | .inl _, .inr _, _, _, e, _, _, _, _ => by cases e
  | .inr _, .inl _, _, _, e, _, _, _, _ => by cases e
theorem key_lt : ∀ {a b : Ky} {u v : Value} {i : Nat}, isL a = isL b → RelV (kV a) u → RelV (kV b) v → ∀ {Q : Bool → Shared → Prop}, Q (ltK a b) s → wpAny (model prog w) A (oneLt' (true && i == 0) u v) Q E s
  | .inl a, .inl b, _, _, 0, _, ⟨t, rfl⟩, ⟨t', rfl⟩, Q, h => oneLt_int h
  | .inr a, .inr b, _, _, 0, _, ⟨t, rfl⟩, ⟨t', rfl⟩, Q, h => oneLt_str h
  | .inl a, .inl b, _, _, i + 1, _, ⟨t, rfl⟩, ⟨t', rfl⟩, Q, h => PySem.W.kat_one _ _ (PyProof.Rows.lt_int h)
  | .inr a, .inr b, _, _, i + 1, _, ⟨t, rfl⟩, ⟨t', rfl⟩, Q, h => PySem.W.kat_one _ _ (PyProof.Rows.lt_str h)
  | .inl _, .inr _, _, _, _, e, _, _, _, _ => by cases e
  | .inr _, .inl _, _, _, _, e, _, _, _, _ => by cases e
theorem keys_lex : ∀ {ks ls : List Ky} {us vs : List Value} {i : Nat}, ks.map isL = ls.map isL → Vals (ks.map kV) us → Vals (ls.map kV) vs →
    PySem.W.KatLex prog w A true false (fun r s' => s' = s ∧ r = lexK ks ls) (us.zip vs) i s
  | [], [], _, _, i, _, .nil, .nil => PySem.W.kat_nil ⟨rfl, rfl⟩
  | [], _ :: _, _, _, _, e, _, _ => by cases e
  | _ :: _, [], _, _, _, e, _, _ => by cases e
  | a :: as, b :: bs, u :: us, v :: vs, i, e, .cons ra rs, .cons rb ts => by
    have e1 : isL a = isL b := (List.cons.inj e).1
    have e2 : as.map isL = bs.map isL := (List.cons.inj e).2
    refine PySem.W.kat_cons (key_eq e1 ra rb ?_)
    refine PySem.W.kat_go (fun h => ?_) (fun h => ?_)
    · have hab : a = b := of_decide_eq_true h
      refine PySem.W.kat_yes ?_
      have z : lexK (a :: as) (b :: bs) = lexK as bs := by show (if a = b then _ else _) = _; rw [if_pos hab]
      rw [z]
      exact keys_lex e2 rs ts
    · have hab : ¬ a = b := of_decide_eq_false h
      refine PySem.W.kat_no (key_lt e1 ra rb ⟨rfl, ?_⟩)
      show ltK a b = (if a = b then _ else _)
      rw [if_neg hab]
/-- a tuple of such keys -/
def IsKeys (h : Heap) (v : Value) (ks : List Ky) : Prop := ∃ a o us n, v = .ref a ∧ h.get? a = some o ∧ o.cls = .type "tuple" ∧ o.data = .seq us n ∧ Vals (ks.map kV) us.toList
theorem IsKeys.keeps {h h' : Heap} {v : Value} {ks : List Ky} (p : IsKeys h v ks) (k : ∀ b o, h.get? b = some o → o.cls = .type "tuple" → h'.get? b = some o) : IsKeys h' v ks := by
  obtain ⟨a, o, us, n, e, ho, hc, hd, r⟩ := p
  exact ⟨a, o, us, n, e, k _ _ ho hc, hc, hd, r⟩
theorem keys_cmp {vs : List Value} {k : Value → List Ky} {sh : List Bool} (hp : ∀ v ∈ vs, IsKeys s.heap v (k v) ∧ (k v).map isL = sh) : SrtO.Cmp prog w A s (tuples' true) (fun p => p.1 ∈ vs) (SrtO.lt2 fun v u => lexK (k v) (k u)) := by
  intro p q hm hm'
  obtain ⟨h1, e1⟩ := hp _ hm
  obtain ⟨h2, e2⟩ := hp _ hm'
  show wpAny (model prog w) A (keyLt' (tuples' true) p.1 q.1) (fun r s' => s' = s ∧ r = lexK (k p.1) (k q.1)) (fun _ _ => False) s
  generalize k p.1 = ks at h1 e1 ⊢
  generalize k q.1 = ls at h2 e2 ⊢
  obtain ⟨a, o, us, n, e, ho, hc, hd, r⟩ := h1
  obtain ⟨a', o', us', n', e', ho', hc', hd', r'⟩ := h2
  rw [e, e']
  refine PySem.W.kat_lt ho hd ho' hd' ?_
  have l1 := r.length
  have l2 := r'.length
  have l3 : ks.length = ls.length := by
    have := congrArg List.length (e1.trans e2.symm)
    rw [List.length_map, List.length_map] at this
    exact this
  have z : decide (us.size < us'.size) = false := by
    rw [List.length_map] at l1 l2
    have q1 : us.toList.length = us.size := Array.length_toList
    have q2 : us'.toList.length = us'.size := Array.length_toList
    exact decide_eq_false (by omega)
  rw [z]
  exact keys_lex (e1.trans e2.symm) r r'
theorem firsts_keys {h : Heap} {k : Value → List Ky} {b : Bool} {sh : List Bool} : ∀ {vs : List Value}, (∀ v ∈ vs, IsKeys h v (k v) ∧ (k v).map isL = b :: sh) → ∃ fs : List Value, PySem.W.KatTups h vs fs ∧ fs.length = vs.length ∧ ∀ f ∈ fs, ∃ ky : Ky, isL ky = b ∧ RelV (kV ky) f
  | [], _ => ⟨[], PySem.W.KatTups.nil, rfl, fun _ hm => by simp at hm⟩
  | v :: vs, hp => by
    obtain ⟨fs, h1, h2, h3⟩ := firsts_keys (vs := vs) fun v' hm => hp v' (List.mem_cons_of_mem _ hm)
    obtain ⟨⟨a, o, us, n, e, ho, hc, hd, r⟩, e1⟩ := hp v (List.mem_cons_self ..)
    subst e
    cases hk : k (.ref a) with
    | nil => rw [hk] at e1; cases e1
    | cons ky kr =>
      rw [hk] at r e1
      obtain ⟨u0, hu0, ru⟩ := Vals.get (i := 0) r rfl
      refine ⟨u0 :: fs, PySem.W.KatTups.cons ho hc hd (by rw [← Array.getElem?_toList]; exact hu0) h1, by rw [List.length_cons, List.length_cons, h2], fun f hm => ?_⟩
      rcases List.mem_cons.mp hm with rfl | hm
      · exact ⟨ky, (List.cons.inj e1).1, ru⟩
      · exact h3 f hm
theorem keys_sortable {a : Addr} {vs : List Value} {k : Value → List Ky} {b : Bool} {sh : List Bool} (h0 : 0 < vs.length) (hp : ∀ v ∈ vs, IsKeys s.heap v (k v) ∧ (k v).map isL = b :: sh) (ha : ∀ o, s.heap.get? a = some o → o.cls ≠ .type "tuple") : SrtO.SortableO prog w A s a vs fun v u => lexK (k v) (k u) := by
  intro h' keep
  have hp' : ∀ v ∈ vs, IsKeys h' v (k v) ∧ (k v).map isL = b :: sh := fun v hm => ⟨(hp v hm).1.keeps fun b o e c => keep b o (fun z => by subst z; exact ha o e c) e, (hp v hm).2⟩
  obtain ⟨fs, h1, h2, h3⟩ := firsts_keys hp'
  refine ⟨tuples' true, fun Q E hq => ?_, keys_cmp hp'⟩
  cases b with
  | true =>
    refine PySem.W.kat_kind (T := .type "int") h1 (by omega) (fun f hm => ?_) (by rfl) ?_
    · obtain ⟨ky, e, r⟩ := h3 f hm
      cases ky with
      | inl i => obtain ⟨t, rfl⟩ := r; exact PySem.W.Looks.now
      | inr x => cases e
    · have e : (Value.type "int" != Value.type "tuple") = true := by decide +kernel
      rw [e]
      exact hq
  | false =>
    refine PySem.W.kat_kind (T := .type "str") h1 (by omega) (fun f hm => ?_) (by rfl) ?_
    · obtain ⟨ky, e, r⟩ := h3 f hm
      cases ky with
      | inl i => cases e
      | inr x => obtain ⟨t, rfl⟩ := r; exact PySem.W.Looks.now
    · have e : (Value.type "str" != Value.type "tuple") = true := by decide +kernel
      rw [e]
      exact hq
end
/-- sorted(xs), tuples of texts and ints of one form -/
def rSortK (K : PySem.W.Frag) : List V → Hp → VK → Prop := fun vs H Q => ∃ (a : Addr) (xs : List V) (k : V → List Ky) (b : Bool) (sh : List Bool), vs = [V.ref a] ∧ SqL K H a xs ∧ (∀ x ∈ xs, ∃ t, x = V.ref t ∧ H t = some (.tup ((k x).map kV)) ∧ (k x).map isL = b :: sh) ∧
  ∀ ys p, ys.Pairwise (fun x y => lexK (k y) (k x) = false) → ys.Perm xs → H p = none → Q (.ref p) (upd H p (.lst ys))
theorem cr_sortK {X : Cx} : CallR X (.builtin "sorted") (rSortK X.K) := by
  intro pins s σ H vs us Q I r h
  obtain ⟨a, xs, k, b, sh, rfl, hs, hx, q⟩ := h
  obtain ⟨its, rv, hl, hz⟩ := I.list hs
  obtain ⟨u, rfl, ru⟩ := vals1 r
  obtain rfl : u = Value.ref a := ru
  obtain ⟨e1, e2⟩ := refs_back rv fun x m => by
    obtain ⟨t, e, _⟩ := hx x m
    exact ⟨t, e⟩
  have hp : ∀ v ∈ its, IsKeys s.heap v (k (backV v)) ∧ (k (backV v)).map isL = b :: sh := fun v hv => by
    obtain ⟨t, rfl⟩ := e2 v hv
    have hm : V.ref t ∈ xs := by rw [e1]; exact List.mem_map.mpr ⟨_, hv, rfl⟩
    obtain ⟨t', e, ht, hsh⟩ := hx _ hm
    cases e
    obtain ⟨_, its2, r2, o, ho, hc, n, hd⟩ := I.hok _ _ ht
    exact ⟨⟨t, o, its2.toArray, n, rfl, ho, hc, hd, (show Vals ((k (V.ref t)).map kV) its2.toArray.toList from by rw [List.toList_toArray]; exact r2)⟩, hsh⟩
  refine SrtO.sorted_ord (lexK_swo fun u => k (backV u)) hl.isList (by rw [← rv.length]; exact hz) (fun h2 h₁ a' ha' kk => ?_) fun out h1 h2 => ?_
  · refine keys_sortable (s := { s with heap := h₁ }) (by omega) (fun v hm => ⟨(hp v hm).1.keeps fun b o e _ => (kk b o e).2, (hp v hm).2⟩) fun o e => ?_
    have e' : some o = some (seqObj "list" its.toArray 0) := e.symm.trans ha'
    cases e'
    intro c
    exact absurd (Value.type.inj c) (by decide)
  · obtain ⟨ep, he'⟩ := PyProof.Rows.sortedAll_at s.heap its out.toArray
    have h3 : ∀ u ∈ out, ∃ a, u = Value.ref a := fun u hu => e2 u (h2.perm.mem_iff.mp hu)
    have hpm : (out.map backV).Perm xs := by
      rw [e1]
      exact h2.perm.map _
    have hlen : (out.map backV).length ≤ sizeLine := by
      rw [hpm.length_eq]
      exact hz
    exact ⟨.ref _, upd H (s.heap.objs.size + 1) (.lst (out.map backV)), I.laid (t' := s.toks) (fun _ _ => PyProof.Rows.sortedAll_old) (Nat.le_succ _) ⟨hlen, out, ep, vals_back h3, he'⟩, rfl, q _ _ (List.pairwise_map.mpr h1) hpm (I.hok.fresh (Nat.le_succ _))⟩
theorem ksortK (K : PySem.W.Frag) {X : Cx} (h : X.K = K := by rfl) : CallR X (.builtin "sorted") (rSortK K) := by subst h; exact cr_sortK
end Bz

namespace Bz
open PySem PySem.Spec PyProof.Rows L2
/-! ### enumerate(xs, start=1), xs a list -/
def ItS (K : PySem.W.Frag) (l : Addr) : It :=
  ⟨fun i H => ∃ (ys : List V) (y : V), SqL K H l ys ∧ ys[i]? = some y, fun i H v H' => ∃ q y, v = .ref q ∧ H q = none ∧ H' = upd H q (.tup [.int (1 + (i : Int)), y]) ∧ ∀ ys, SqL K H l ys → ys[i]? = some y, fun i H => ∃ ys : List V, SqL K H l ys ∧ ys.length = i⟩
theorem turn_enumS {P : Program} {w : World} {K : PySem.W.Frag} {elts : List Expr} {kk : Nat} {tp : Pos} (l en it : Addr) :
    Turn P w K (.Tuple elts kk tp) (ItS K l) [en, it] en (fun i h => (∃ old, IsEnum h en it (1 + ((i : Nat) : Int)) old) ∧ h.IsListIter it l i ∧ en ≠ it) where
  mem := List.mem_cons_self ..
  obj := fun i h st b hb => by
    obtain ⟨⟨old, he⟩, ⟨o, ho, hc, hd⟩, _⟩ := st
    rcases List.mem_cons.mp hb with z | z
    · rw [z]
      exact ⟨_, he, fun v q => nomatch q⟩
    · rw [List.mem_singleton.mp z]
      exact ⟨o, ho, fun v q => by rw [hd] at q; cases q⟩
  keep := fun i h h' st k => ⟨⟨st.1.choose, k en (by simp) _ st.1.choose_spec⟩, st.2.1.at fun o q => k it (by simp) o q, st.2.2⟩
  item := by
    intro X hP hw hK hc i pins s σ H E I hf st hg
    subst hP hw hK
    obtain ⟨⟨old, he⟩, hit, hne⟩ := st
    obtain ⟨ys, y, hq, hy⟩ := hg
    obtain ⟨its, rv, pl, hz⟩ := I.list hq
    obtain ⟨u, hu, ru⟩ := rv.get hy
    have hen : en < s.heap.objs.size := Heap.lt_size he
    have hil : it < s.heap.objs.size := by
      obtain ⟨_, q, _⟩ := hit
      exact Heap.lt_size q
    have nli : l ≠ it := fun z => by
      obtain ⟨o1, q1, c1, _⟩ := hit
      obtain ⟨o2, q2, c2, _⟩ := pl.isList
      rw [z, q1] at q2
      cases q2
      rw [c1] at c2
      exact absurd (Value.type.inj c2) (by decide)
    have nle : l ≠ en := fun z => by
      obtain ⟨o2, q2, c2, _⟩ := pl.isList
      have he' : s.heap.get? en = some _ := he
      rw [z, he'] at q2
      cases q2
      exact absurd (Value.type.inj c2) (by decide)
    have D := Draws.list (prog := X.prog) (w := X.w) (A := X.A.in1) (I.ok.hd hc) it l nli its.toArray
    refine wpAny_pyNext_enum_itemC D he (i := i) ⟨hit, pl.isList⟩ ?_ hne (by simp [hne, Ne.symm nle]) fun x h' tk hx ho hst hT hsz hk => ?_
    · have := (List.getElem?_eq_some_iff.mp hu).1
      simpa using this
    have exu : x = u := by
      have q : its[i]? = some x := by simpa using hx
      rw [hu] at q
      exact (Option.some.inj q).symm
    subst exu
    refine ⟨_, rfl, wpAny_letOwnedTupleGo_enum (s := { s with heap := h', toks := tk + 1 }) ho fun h'' he'' sb => ?_⟩
    have hT2 : h''.get? s.heap.objs.size = some { cls := .type "tuple", data := .seq #[.int (1 + (i : Int)) tk, x] } := (sb.2 _ (Nat.ne_of_gt hen)).trans hT
    have new : ObjOk X.prog X.w (upd H s.heap.objs.size (.tup [.int (1 + (i : Int)), y])) h'' s.heap.objs.size (.tup [.int (1 + (i : Int)), y]) :=
      ⟨Nat.le_of_ble_eq_true rfl, [.int (1 + (i : Int)) tk, x], .cons ⟨_, rfl⟩ (.cons ru .nil), ⟨_, hT2, rfl, _, rfl⟩⟩
    have I1 : Inv X pins σ (upd H s.heap.objs.size (.tup [.int (1 + (i : Int)), y])) { s with heap := h'', toks := tk + 1 } :=
      I.turnedNew (ch := [en, it]) (fun b ob hb q => (sb.2 b (fun z => hb (by simp [z]))).trans (hk b ob (fun z => hb (by simp [z])) (fun z => hb (by simp [z])) q)) hf (Nat.le_refl _) new
    refine ⟨.ref s.heap.objs.size, _, I1, rfl, ⟨_, y, rfl, I.hok.fresh (Nat.le_refl _), rfl, fun zs hzs => by rw [I.list_inj hzs hq]; exact hy⟩, ⟨⟨x, ?_⟩, hst.1.at fun o q => (sb.2 it (Ne.symm hne)).trans q, hne⟩, fun b hb => ?_⟩
    · have e1 : (1 : Int) + ((i + 1 : Nat) : Int) = 1 + (i : Int) + 1 := by omega
      rw [e1]
      exact he''
    · have hb' : b < s.heap.objs.size := by
        rcases List.mem_cons.mp hb with z | z
        · rw [z]; exact hen
        · rw [List.mem_singleton.mp z]; exact hil
      rw [upd_ne (Nat.ne_of_lt hb')]
      exact (hf b hb).1
  done := by
    intro X hP hw hK hc i pins s σ H E I hf st hg
    subst hP hw hK
    obtain ⟨⟨old, he⟩, hit, hne⟩ := st
    obtain ⟨ys, hq, hy⟩ := hg
    obtain ⟨its, rv, pl, hz⟩ := I.list hq
    obtain ⟨f0, f1, f2, f3, f4, f5⟩ := hf it (by simp)
    have hlen := rv.length
    have nli : l ≠ it := fun z => by
      obtain ⟨o1, q1, c1, _⟩ := hit
      obtain ⟨o2, q2, c2, _⟩ := pl.isList
      rw [z, q1] at q2
      cases q2
      rw [c1] at c2
      exact absurd (Value.type.inj c2) (by decide)
    have D := Draws.list (prog := X.prog) (w := X.w) (A := X.A.in1) (I.ok.hd hc) it l nli its.toArray
    have en : its.toArray.size = i := by
      rw [List.size_toArray]
      omega
    exact wpAny_pyNext_enum_endD D he ⟨by rw [en]; exact hit, pl.isList⟩ fun h' eb => ⟨rfl, I.turned (t' := s.toks) (fun b o hb q => eb b o hb q) f0 f1 f3 f4 f5⟩
  self := fun A i s Q E st h => wpAny_pyIter_enum st.1.choose_spec h
def iEnumS (K : PySem.W.Frag) (te : TE) : TI := fun σ H R => te σ H fun v H1 => ∃ l ys, v = .ref l ∧ SqL K H1 l ys ∧ R (ItS K l) H1
theorem callTy_kw {M : Model} {A : Around} {E : Value → Shared → Prop} {s : Shared} {pos : Pos} {T : String} {t : Sem Value} {kw : PySem.Str} {x : Sem Value} {Q : Value → Shared → Prop}
    (h : wpAny M A t (fun v s1 => wpAny M A x (fun k s2 => wpAny M A (call (.type T) [v] [(kw, k)]) Q E s2) E s1) E s) :
    wpAny M A (callWith pos (.type T) [] [(false, t)] [(some kw, x)]) Q E s := by
  unfold callWith
  refine wpAny_bind (wpAny_holding (wpAny_mono (Q := fun (a : Args) s1 => wpAny M A (call (.type T) ([] ++ a.pos) a.kw) Q E s1) ?_ (fun a s1 h1 => wpAny_bind (wpAny_standAt ?_)) fun _ _ z => z))
  · refine evalArgs_kwB (by rfl) ?_
    refine Calls.spliced_cons (wpAny_mono h (fun v s1 h1 => Calls.spliced_nil ?_) fun _ _ z => z)
    exact evalAll_cons (wpAny_mono h1 (fun k s2 h2 => wpAny_evalAll_nil h2) fun _ _ z => z)
  · refine wpAny_bind (wpAny_pure ?_)
    exact wpAny_bind (wpAny_mono h1 (fun r s2 hr => wpAny_bind (wpAny_holding (wpAny_point (wpAny_pure hr)))) fun _ _ z => z)
theorem pi_enumS {X : Cx} {e : Expr} {te : TE} {p pos tpos kpos : Pos} {j : Nat} {cpos : Pos} {elts : List Expr} {kk : Nat} (hg : Gl X "enumerate") (hm : X.mg "enumerate" = none) (he : PE X e te) (hs : starEach [e] X.env = [(false, eval e X.env)] := by rfl) :
    PI X (.Tuple elts kk tpos) (.Call (.Name "enumerate" p) [e] [⟨some "start", .Constant (.int 1) j cpos, kpos⟩] pos) (iEnumS X.K te) := by
  refine ⟨fun pins s σ H R I h => ?_⟩
  refine wpAny_Call_Name_kw (ld_blt I hg hm boot_enumerate ?_)
  rw [hs]
  show wpAny _ _ (callWith pos (Value.type "enumerate") [] [(false, eval e X.env)] [(some "start", do let v ← eval (.Constant (.int 1) j cpos) X.env; standAt pos; pure v)]) _ _ _
  refine callTy_kw (thn (he.run pins s σ H _ I h) fun u s1 ⟨v, H1, I1, r1, l, ys, ev, hq, q⟩ => ?_)
  subst ev
  obtain rfl : u = Value.ref l := r1
  refine wpAny_bind (wpAny_Constant_int (wpAny_bind (wpAny_standAt (wpAny_pure ?_))))
  have I2 := I1.tok (s1.toks + 1)
  obtain ⟨its, rv, pl, hz⟩ := I2.list hq
  refine enum_begins_start (s := { s1 with toks := s1.toks + 1 }) (begins_list l its.toArray) pl.isList (by decide) (by decide) fun h' he' hit hsz hk => wpAny_pyIter_enum he' ?_
  have I3 : Inv X pins σ H1 { s1 with heap := h', toks := s1.toks + 1 } := I2.kept (t' := s1.toks + 1) hk
  refine ⟨s1.heap.objs.size + 1, [s1.heap.objs.size + 1, s1.heap.objs.size], _, _, H1, rfl, I3, turn_enumS l (s1.heap.objs.size + 1) s1.heap.objs.size, ⟨⟨.none, by simpa using he'⟩, ⟨_, hit, rfl, rfl⟩, Nat.succ_ne_self _⟩, fun b hb => ?_, q⟩
  have hle : s1.heap.objs.size ≤ b := by
    rcases List.mem_cons.mp hb with z | z
    · rw [z]
      exact Nat.le_succ _
    · rw [List.mem_singleton.mp z]
      exact Nat.le_refl _
  exact I2.fpOk hle (I2.hok.fresh hle)
theorem walk_enumS {K : PySem.W.Frag} {l : Addr} {ys : List V} : Walk (ItS K l) ys.length (fun H => SqL K H l ys) (fun i H v H' => ∃ q y, v = .ref q ∧ H q = none ∧ H' = upd H q (.tup [.int (1 + (i : Int)), y]) ∧ ys[i]? = some y) :=
  ⟨fun i _ hi q => ⟨ys, ys[i], q, by simp [hi]⟩, fun _ q => ⟨ys, q, rfl⟩, fun _ _ _ _ _ q ⟨a, b, c, d, e, f⟩ => ⟨a, b, c, d, e, f ys q⟩⟩
/-! the same of a tuple -/
def ItST (K : PySem.W.Frag) (l : Addr) : It :=
  ⟨fun i H => ∃ (ys : List V) (y : V), SqT K H l ys ∧ ys[i]? = some y, fun i H v H' => ∃ q y, v = .ref q ∧ H q = none ∧ H' = upd H q (.tup [.int (1 + (i : Int)), y]) ∧ ∀ ys, SqT K H l ys → ys[i]? = some y, fun i H => ∃ ys : List V, SqT K H l ys ∧ ys.length = i⟩
theorem turn_enumST {P : Program} {w : World} {K : PySem.W.Frag} {elts : List Expr} {kk : Nat} {tp : Pos} (l en it : Addr) :
    Turn P w K (.Tuple elts kk tp) (ItST K l) [en, it] en (fun i h => (∃ old, IsEnum h en it (1 + ((i : Nat) : Int)) old) ∧ h.IsTupleIter it l i ∧ en ≠ it) where
  mem := List.mem_cons_self ..
  obj := fun i h st b hb => by
    obtain ⟨⟨old, he⟩, ⟨o, ho, hc, hd⟩, _⟩ := st
    rcases List.mem_cons.mp hb with z | z
    · rw [z]
      exact ⟨_, he, fun v q => nomatch q⟩
    · rw [List.mem_singleton.mp z]
      exact ⟨o, ho, fun v q => by rw [hd] at q; cases q⟩
  keep := fun i h h' st k => ⟨⟨st.1.choose, k en (by simp) _ st.1.choose_spec⟩, st.2.1.at fun o q => k it (by simp) o q, st.2.2⟩
  item := by
    intro X hP hw hK hc i pins s σ H E I hf st hg
    subst hP hw hK
    obtain ⟨⟨old, he⟩, hit, hne⟩ := st
    obtain ⟨ys, y, hq, hy⟩ := hg
    obtain ⟨its, rv, pl, hz⟩ := I.tuple hq
    obtain ⟨u, hu, ru⟩ := rv.get hy
    have hen : en < s.heap.objs.size := Heap.lt_size he
    have hil : it < s.heap.objs.size := by
      obtain ⟨_, q, _⟩ := hit
      exact Heap.lt_size q
    have nli : l ≠ it := fun z => by
      obtain ⟨o1, q1, c1, _⟩ := hit
      obtain ⟨o2, q2, c2, _⟩ := (show Heap.IsTuple _ _ _ from pl)
      rw [z, q1] at q2
      cases q2
      rw [c1] at c2
      exact absurd (Value.type.inj c2) (by decide)
    have nle : l ≠ en := fun z => by
      obtain ⟨o2, q2, c2, _⟩ := (show Heap.IsTuple _ _ _ from pl)
      have he' : s.heap.get? en = some _ := he
      rw [z, he'] at q2
      cases q2
      exact absurd (Value.type.inj c2) (by decide)
    have D := Draws.tuple (prog := X.prog) (w := X.w) (A := X.A.in1) (I.ok.hd hc) it l nli its.toArray
    refine wpAny_pyNext_enum_itemC D he (i := i) ⟨hit, (show Heap.IsTuple _ _ _ from pl)⟩ ?_ hne (by simp [hne, Ne.symm nle]) fun x h' tk hx ho hst hT hsz hk => ?_
    · have := (List.getElem?_eq_some_iff.mp hu).1
      simpa using this
    have exu : x = u := by
      have q : its[i]? = some x := by simpa using hx
      rw [hu] at q
      exact (Option.some.inj q).symm
    subst exu
    refine ⟨_, rfl, wpAny_letOwnedTupleGo_enum (s := { s with heap := h', toks := tk + 1 }) ho fun h'' he'' sb => ?_⟩
    have hT2 : h''.get? s.heap.objs.size = some { cls := .type "tuple", data := .seq #[.int (1 + (i : Int)) tk, x] } := (sb.2 _ (Nat.ne_of_gt hen)).trans hT
    have new : ObjOk X.prog X.w (upd H s.heap.objs.size (.tup [.int (1 + (i : Int)), y])) h'' s.heap.objs.size (.tup [.int (1 + (i : Int)), y]) :=
      ⟨Nat.le_of_ble_eq_true rfl, [.int (1 + (i : Int)) tk, x], .cons ⟨_, rfl⟩ (.cons ru .nil), ⟨_, hT2, rfl, _, rfl⟩⟩
    have I1 : Inv X pins σ (upd H s.heap.objs.size (.tup [.int (1 + (i : Int)), y])) { s with heap := h'', toks := tk + 1 } :=
      I.turnedNew (ch := [en, it]) (fun b ob hb q => (sb.2 b (fun z => hb (by simp [z]))).trans (hk b ob (fun z => hb (by simp [z])) (fun z => hb (by simp [z])) q)) hf (Nat.le_refl _) new
    refine ⟨.ref s.heap.objs.size, _, I1, rfl, ⟨_, y, rfl, I.hok.fresh (Nat.le_refl _), rfl, fun zs hzs => by rw [I.tuple_inj hzs hq]; exact hy⟩, ⟨⟨x, ?_⟩, hst.1.at fun o q => (sb.2 it (Ne.symm hne)).trans q, hne⟩, fun b hb => ?_⟩
    · have e1 : (1 : Int) + ((i + 1 : Nat) : Int) = 1 + (i : Int) + 1 := by omega
      rw [e1]
      exact he''
    · have hb' : b < s.heap.objs.size := by
        rcases List.mem_cons.mp hb with z | z
        · rw [z]; exact hen
        · rw [List.mem_singleton.mp z]; exact hil
      rw [upd_ne (Nat.ne_of_lt hb')]
      exact (hf b hb).1
  done := by
    intro X hP hw hK hc i pins s σ H E I hf st hg
    subst hP hw hK
    obtain ⟨⟨old, he⟩, hit, hne⟩ := st
    obtain ⟨ys, hq, hy⟩ := hg
    obtain ⟨its, rv, pl, hz⟩ := I.tuple hq
    obtain ⟨f0, f1, f2, f3, f4, f5⟩ := hf it (by simp)
    have hlen := rv.length
    have nli : l ≠ it := fun z => by
      obtain ⟨o1, q1, c1, _⟩ := hit
      obtain ⟨o2, q2, c2, _⟩ := (show Heap.IsTuple _ _ _ from pl)
      rw [z, q1] at q2
      cases q2
      rw [c1] at c2
      exact absurd (Value.type.inj c2) (by decide)
    have D := Draws.tuple (prog := X.prog) (w := X.w) (A := X.A.in1) (I.ok.hd hc) it l nli its.toArray
    have en : its.toArray.size = i := by
      rw [List.size_toArray]
      omega
    exact wpAny_pyNext_enum_endD D he ⟨by rw [en]; exact hit, (show Heap.IsTuple _ _ _ from pl)⟩ fun h' eb => ⟨rfl, I.turned (t' := s.toks) (fun b o hb q => eb b o hb q) f0 f1 f3 f4 f5⟩
  self := fun A i s Q E st h => wpAny_pyIter_enum st.1.choose_spec h
def iEnumST (K : PySem.W.Frag) (te : TE) : TI := fun σ H R => te σ H fun v H1 => ∃ l ys, v = .ref l ∧ SqT K H1 l ys ∧ R (ItST K l) H1
theorem pi_enumST {X : Cx} {e : Expr} {te : TE} {p pos tpos kpos : Pos} {j : Nat} {cpos : Pos} {elts : List Expr} {kk : Nat} (hg : Gl X "enumerate") (hm : X.mg "enumerate" = none) (he : PE X e te) (hs : starEach [e] X.env = [(false, eval e X.env)] := by rfl) :
    PI X (.Tuple elts kk tpos) (.Call (.Name "enumerate" p) [e] [⟨some "start", .Constant (.int 1) j cpos, kpos⟩] pos) (iEnumST X.K te) := by
  refine ⟨fun pins s σ H R I h => ?_⟩
  refine wpAny_Call_Name_kw (ld_blt I hg hm boot_enumerate ?_)
  rw [hs]
  show wpAny _ _ (callWith pos (Value.type "enumerate") [] [(false, eval e X.env)] [(some "start", do let v ← eval (.Constant (.int 1) j cpos) X.env; standAt pos; pure v)]) _ _ _
  refine callTy_kw (thn (he.run pins s σ H _ I h) fun u s1 ⟨v, H1, I1, r1, l, ys, ev, hq, q⟩ => ?_)
  subst ev
  obtain rfl : u = Value.ref l := r1
  refine wpAny_bind (wpAny_Constant_int (wpAny_bind (wpAny_standAt (wpAny_pure ?_))))
  have I2 := I1.tok (s1.toks + 1)
  obtain ⟨its, rv, pl, hz⟩ := I2.tuple hq
  refine enum_begins_start (s := { s1 with toks := s1.toks + 1 }) (begins_tuple l its.toArray) (show Heap.IsTuple _ _ _ from pl) (by decide) (by decide) fun h' he' hit hsz hk => wpAny_pyIter_enum he' ?_
  have I3 : Inv X pins σ H1 { s1 with heap := h', toks := s1.toks + 1 } := I2.kept (t' := s1.toks + 1) hk
  refine ⟨s1.heap.objs.size + 1, [s1.heap.objs.size + 1, s1.heap.objs.size], _, _, H1, rfl, I3, turn_enumST l (s1.heap.objs.size + 1) s1.heap.objs.size, ⟨⟨.none, by simpa using he'⟩, ⟨_, hit, rfl, rfl⟩, Nat.succ_ne_self _⟩, fun b hb => ?_, q⟩
  have hle : s1.heap.objs.size ≤ b := by
    rcases List.mem_cons.mp hb with z | z
    · rw [z]
      exact Nat.le_succ _
    · rw [List.mem_singleton.mp z]
      exact Nat.le_refl _
  exact I2.fpOk hle (I2.hok.fresh hle)
theorem walk_enumST {K : PySem.W.Frag} {l : Addr} {ys : List V} : Walk (ItST K l) ys.length (fun H => SqT K H l ys) (fun i H v H' => ∃ q y, v = .ref q ∧ H q = none ∧ H' = upd H q (.tup [.int (1 + (i : Int)), y]) ∧ ys[i]? = some y) :=
  ⟨fun i _ hi q => ⟨ys, ys[i], q, by simp [hi]⟩, fun _ q => ⟨ys, q, rfl⟩, fun _ _ _ _ _ q ⟨a, b, c, d, e, f⟩ => ⟨a, b, c, d, e, f ys q⟩⟩
end Bz

namespace Bz
open PySem PySem.Spec PyProof.Rows L2
/-! ### texts in order -/
def ltV (v u : Value) : Bool := decide ((strOf v).cps.toList < (strOf u).cps.toList)
theorem ltV_swo : SrtO.Swo ltV := by
  have q := lexK_swo (α := Value) fun v => [(.inr (strOf v) : Ky)]
  have e : ∀ v u, lexK [(.inr (strOf v) : Ky)] [.inr (strOf u)] = ltV v u := fun v u => by
    show (if _ then _ else _) = _
    by_cases h : (Sum.inr (strOf v) : Ky) = .inr (strOf u)
    · rw [if_pos h]
      have h' : strOf v = strOf u := Sum.inr.inj h
      unfold ltV
      rw [h']
      exact (decide_eq_false (List.lt_irrefl _)).symm
    · rw [if_neg h]
      rfl
  exact ⟨fun x y h => by rw [← e] at h ⊢; exact q.asym x y h, fun x y z h1 h2 => by rw [← e] at h1 h2 ⊢; exact q.tr x y z h1 h2⟩
section
variable {prog : Program} {w : World} {A : Around} {E : Value → Shared → Prop} {s : Shared}
theorem strs_sortable {a : Addr} {vs : List Value} {ss : List PySem.Str} (hS : StrsAre vs ss) (h2 : 2 ≤ vs.length) : SrtO.SortableO prog w A s a vs ltV := by
  intro h' _
  refine ⟨oneType', fun Q E hq => ?_, fun p q hm hm' => ?_⟩
  · match vs, hS, h2 with
    | v1 :: v2 :: rest, hS, _ =>
      rw [keyKind_strs hS]
      exact wpAny_pure hq
    | [], _, h => exact absurd h (by decide)
    | [v], _, h => exact absurd h (by simp)
  · obtain ⟨x, t, ex⟩ := hS.all _ hm
    obtain ⟨y, u, ey⟩ := hS.all _ hm'
    show wpAny (model prog w) A (keyLt' oneType' p.1 q.1) (fun r s' => s' = _ ∧ r = ltV p.1 q.1) (fun _ _ => False) _
    rw [ex, ey, keyLt'_oneType]
    exact oneLt_str ⟨rfl, rfl⟩
theorem strs_out {vs out : List Value} {ss : List PySem.Str} (hS : StrsAre vs ss) (hs : SrtO.Srtd ltV out) (hb : SrtO.Stb ltV out vs) :
    StrsAre out (out.map strOf) ∧ (out.map strOf).Perm ss ∧ (out.map strOf).Pairwise (fun x y => ¬ y.cps.toList < x.cps.toList) := by
  refine ⟨strsAre_map out fun v hv => hS.all v (hb.perm.mem_iff.mp hv), ?_, ?_⟩
  · have q := hb.perm.map strOf
    rw [hS.strs] at q
    exact q
  · exact List.pairwise_map.mpr (hs.imp fun {x y} h => of_decide_eq_false h)
end
/-! ### a set of texts, its table told as far as a walk over it asks -/
def skey (e : Int × Value) : PySem.Str := strOf e.2
structure StrR (P : Program) (w : World) (h : Heap) (a : Addr) (M : PySem.Str → Prop) (b : Nat) (es : Array (Int × Value)) (ep : Nat) (t : SetTable) : Prop where
  ob : ∃ o, h.get? a = some o ∧ o.ExactSet ∧ o.data = .set es ep t
  el : ElemsOf (strKind P w) es.toList
  nd : (es.toList.map skey).Nodup
  mem : ∀ k, M k ↔ k ∈ es.toList.map skey
  size : es.size ≤ b
  few : b < scanBound
  fits : t.fits es.size = true
  ris : Ris t.place.toList
  led : w.params.followText "set-order" = true ∨ t.led = true
section
variable {P : Program} {w : World} {A : Around} {E : Value → Shared → Prop} {s : Shared} {a : Addr} {M : PySem.Str → Prop} {b : Nat} {es : Array (Int × Value)} {ep : Nat} {t : SetTable}
theorem el_str {l : List (Int × Value)} (g : ElemsOf (strKind P w) l) {e : Int × Value} (he : e ∈ l) : ∃ tk, e = (hashStr w (skey e), .str (skey e) tk) := by
  obtain ⟨⟨k, hk, hh⟩, _⟩ := g e he
  obtain ⟨tk, q⟩ := Value.isStrOf_shape (show Value.isStrOf k e.2 = true from hk)
  obtain ⟨e1, e2⟩ := e
  dsimp only at q hh
  subst q hh
  exact ⟨tk, rfl⟩
theorem el_is {l : List (Int × Value)} (g : ElemsOf (strKind P w) l) (k : PySem.Str) {e : Int × Value} (he : e ∈ l) : (strKind P w).is k e.2 = true ↔ skey e = k := by
  obtain ⟨tk, q⟩ := el_str g he
  constructor
  · intro h
    obtain ⟨tk', q'⟩ := Value.isStrOf_shape (show Value.isStrOf k e.2 = true from h)
    unfold skey
    rw [q']
    rfl
  · intro h
    rw [q, h]
    exact strKind_is P w k tk
theorem StrR.at {h h' : Heap} (R : StrR P w h a M b es ep t) (k : ∀ o, h.get? a = some o → h'.get? a = some o) : StrR P w h' a M b es ep t := by
  obtain ⟨o, ho, r⟩ := R.ob
  exact { R with ob := ⟨o, k o ho, r⟩ }
theorem str_tail {g : Bool → Sem Unit} (hg : ∀ (c : Bool) (s1 : Shared) (Q' : Unit → Shared → Prop), Q' () s1 → wpAny (model P w) A (g c) Q' E s1)
    {o : Obj} (ho : s.heap.get? a = some o) (hex : o.ExactSet) (hd : o.data = .set es ep t) {es1 : Array (Int × Value)} {t2 : SetTable} {M' : PySem.Str → Prop} {b' : Nat} (g1 : ElemsOf (strKind P w) es1.toList) (nd1 : (es1.toList.map skey).Nodup)
    (m1 : ∀ k, M' k ↔ k ∈ es1.toList.map skey) (hz : es1.size ≤ b') (hb1 : b' < scanBound) (hf2 : t2.fits es1.size = true) (hr : Ris t2.place.toList) (hl : w.params.followText "set-order" = true ∨ t2.led = true) {wd : Bool} {R : Option Bool → Shared → Prop}
    (hR : ∀ h' es' ep' t', Heap.SameBut a s.heap h' → StrR P w h' a M' b' es' ep' t' → R (some true) { s with heap := h' }) :
    wpAny (model P w) A (do
        storeSet a es1 t2
        if (!wd && t2.tooFull) = true then do
            g (relayAll t2 es1 (SetTable.grown es1.size)).2.2
            storeSet a (relayAll t2 es1 (SetTable.grown es1.size)).1 (relayAll t2 es1 (SetTable.grown es1.size)).2.1
            pure (some true)
          else pure (some true)) R E s := by
  have hlt : es1.size < scanBound := Nat.lt_of_le_of_lt hz hb1
  refine wpAny_bind (wpAny_storeSet_of ho hd ?_ (fits_of_scanBound hlt))
  have ho1 := L2.store_at (es' := es1) (t' := t2) ho hd
  have sb1 := Heap.SameBut.update s.heap a (Obj.putSet es1 t2)
  split
  · have pm := relayAll_perm t2 es1 (SetTable.grown es1.size)
    have hf3 := relayAll_fits t2 es1 (SetTable.grown es1.size)
    have hr3 := relayAll_ris t2 es1 (SetTable.grown es1.size)
    have hl3 := relayAll_led t2 es1 (SetTable.grown es1.size)
    generalize relayAll t2 es1 (SetTable.grown es1.size) = Z at pm hf3 hr3 hl3 ⊢
    obtain ⟨es2, t3, gave⟩ := Z
    dsimp only at pm hf3 hr3 hl3 ⊢
    have hsz : es2.size = es1.size := by
      have := pm.length_eq
      rw [Array.length_toList, Array.length_toList] at this
      exact this
    refine wpAny_bind (hg _ _ _ ?_)
    refine wpAny_bind (wpAny_storeSet_of ho1 rfl ?_ (fits_of_scanBound (by rw [hsz]; exact hlt)))
    have ho2 := L2.store_at (es' := es2) (t' := t3) ho1 rfl
    refine wpAny_pure (hR _ es2 (ep + 1 + 1) t3 (sb1.trans (Heap.SameBut.update _ a _)) ?_)
    exact ⟨⟨_, ho2, hex, rfl⟩, fun e he => g1 e (pm.mem_iff.mp he), (pm.map skey).nodup_iff.mpr nd1, fun k => (m1 k).trans (pm.map skey).mem_iff.symm, by rw [hsz]; exact hz, hb1, hf3, hr3, hl.imp id fun z => by rw [hl3]; exact z⟩
  · exact wpAny_pure (hR _ es1 (ep + 1) t2 sb1 ⟨⟨_, ho1, hex, rfl⟩, g1, nd1, m1, hz, hb1, hf2, hr, hl⟩)
end
section
variable {P : Program} {w : World} {A : Around} {E : Value → Shared → Prop} {s : Shared} {a : Addr} {M : PySem.Str → Prop} {b : Nat} {es : Array (Int × Value)} {ep : Nat} {t : SetTable}
theorem str_add {k : PySem.Str} {tk : Tok} {Q : Bool → Shared → Prop} (R : StrR P w s.heap a M b es ep t) (room : b + 1 < scanBound)
    (hQ : ∀ c h' es' ep' t', Heap.SameBut a s.heap h' → StrR P w h' a (fun j => M j ∨ j = k) (b + 1) es' ep' t' → Q c { s with heap := h' }) :
    wpAny (model P w) A (setAddHashed a (.str k tk) ((strKind P w).hash k)) Q E s := by
  obtain ⟨⟨o, ho, hex, hd⟩, hel, nd, hm, hsz, hb, hf, hr, hl⟩ := R
  have hlt : es.size < scanBound := Nat.lt_of_le_of_lt hsz hb
  have hkey : (strKind P w).is k (.str k tk) = true := strKind_is P w k tk
  have hsc : (Value.str k tk).scannable = true := rfl
  unfold setAddHashed setAddHashedIn
  refine wpAny_holding (wpAny_bind (wpAny_setState_of ho hd hf ?_))
  dsimp only
  rw [byScan_of hsc hlt hel]
  simp only [↓reduceIte]
  unfold setAddByScan
  refine wpAny_bind ?_
  refine wpAny_bind (wpAny_rule ?_)
  refine wpAny_bind (wpAny_setScan_of hkey ho hd hf hel ?_)
  cases hfi : List.findIdx? (fun e => (strKind P w).is k e.2) es.toList with
  | some j =>
    dsimp only
    obtain ⟨hj, pj, _⟩ := List.findIdx?_eq_some_iff_getElem.mp hfi
    have hk : k ∈ es.toList.map skey := List.mem_map.mpr ⟨es.toList[j], List.getElem_mem hj, (el_is hel k (List.getElem_mem hj)).mp pj⟩
    refine wpAny_pure (wpAny_pure (hQ _ s.heap es ep t (Heap.SameBut.refl a s.heap) ⟨⟨o, ho, hex, hd⟩, hel, nd, fun i => ?_, by omega, room, hf, hr, hl⟩))
    rw [hm i]
    exact ⟨fun z => z.elim id fun e => by rw [e]; exact hk, .inl⟩
  | none =>
    dsimp only
    have hnk : k ∉ es.toList.map skey := fun z => by
      obtain ⟨e, he, q⟩ := List.mem_map.mp z
      have c := List.findIdx?_eq_none_iff.mp hfi e he
      rw [(el_is hel k he).mpr q] at c
      cases c
    have hgw : ∀ (c : Bool) {s1 : Shared} {Q' : Unit → Shared → Prop}, Q' () s1 → wpAny (model P w) A (match c with | true => rule "set.scan.the-table-gave-way" | false => pure ()) Q' E s1 :=
      fun c s1 Q' q => by
        cases c
        · exact wpAny_pure q
        · exact wpAny_rule q
    have pm := layNew_perm t es ((strKind P w).hash k) (.str k tk)
    have hf1 := layNew_fits t es ((strKind P w).hash k) (.str k tk)
    have hr1 := layNew_ris t es ((strKind P w).hash k) (.str k tk) hr
    have hl1 := layNew_led t es ((strKind P w).hash k) (.str k tk)
    generalize layNew t es ((strKind P w).hash k) (.str k tk) = Z at pm hf1 hr1 hl1 ⊢
    obtain ⟨es1, t1, wd, gave⟩ := Z
    dsimp only at pm hf1 hr1 hl1 ⊢
    rw [Array.toList_push] at pm
    have pc : es1.toList.Perm (((strKind P w).hash k, Value.str k tk) :: es.toList) := pm.trans (List.perm_append_singleton _ _)
    have pk : (es1.toList.map skey).Perm (k :: es.toList.map skey) := pc.map skey
    have g1 : ElemsOf (strKind P w) es1.toList := fun e he => by
      rcases List.mem_cons.mp (pc.mem_iff.mp he) with z | z
      · rw [z]
        exact ⟨⟨k, hkey, rfl⟩, rfl⟩
      · exact hel e z
    have nd1 : (es1.toList.map skey).Nodup := pk.nodup_iff.mpr (List.nodup_cons.mpr ⟨hnk, nd⟩)
    have m1 : ∀ i, (M i ∨ i = k) ↔ i ∈ es1.toList.map skey := fun i => by
      rw [hm i, pk.mem_iff, List.mem_cons]
      exact Or.comm
    have hz1 : es1.size ≤ b + 1 := by
      have := pc.length_eq
      rw [List.length_cons, Array.length_toList, Array.length_toList] at this
      omega
    have hled : w.params.followText "set-order" = true ∨ t1.led = true := hl.imp id fun z => by rw [hl1]; exact z
    refine wpAny_bind (hgw _ ?_)
    split
    · refine wpAny_bind ?_
      rw [hashByValue_scannable 8 hsc]
      refine wpAny_pure ?_
      refine str_tail ?_ ho hex hd g1 nd1 m1 hz1 room ?_ ?_ ?_ ?_
      · intro c s1 Q' q
        cases c <;> first | exact wpAny_pure q | exact wpAny_rule q
      · first | (split <;> first | exact hf1 | exact SetTable.fits_plain_off hf1) | exact hf1
      · first | (split <;> exact hr1) | exact hr1
      · first | (split <;> exact hled) | exact hled
      · intro h' es' ep' t' sb r
        dsimp only
        exact wpAny_pure (hQ _ _ _ _ _ sb r)
    · refine wpAny_bind (wpAny_pure ?_)
      simp only [↓reduceIte]
      refine str_tail ?_ ho hex hd g1 nd1 m1 hz1 room hf1 hr1 hled ?_
      · intro c s1 Q' q
        cases c <;> first | exact wpAny_pure q | exact wpAny_rule q
      · intro h' es' ep' t' sb r
        dsimp only
        exact wpAny_pure (hQ _ _ _ _ _ sb r)
end
section
variable {P : Program} {w : World} {A : Around} {R : Result → Shared → Prop} {I : Addr} {fp wr : List Addr} {G : Array GenState → Array GenState → Prop} {n : Nat} {Pv : Nat → Value → Prop} {St : Nat → Shared → Prop}
theorem str_loop (W : WalksS P w A.in1 I fp wr G n Pv St) (S : Addr) (hSf : S ∉ fp) (xs : List PySem.Str) (hsz : xs.length = n) (hn : n + 1 < scanBound) (hval : ∀ i v, Pv i v → ∃ t, v = .str (xs.getD i Str.empty) t) :
    ∀ (k i : Nat) (s : Shared), n - i = k → i ≤ n → St i s → (∃ es ep t, StrR P w s.heap S (fun x => x ∈ xs.take i) i es ep t) →
      (∀ s' es ep t, Moved (S :: wr) G s s' → StrR P w s'.heap S (fun x => x ∈ xs.take n) n es ep t → R (.ok (.ret .none)) s') →
      codeAny (model P w) A (.builtin "set.update.loop" ⟨[.ref S, .ref I], []⟩) R s := by
  have hSw : S ∉ wr := fun h => hSf (W.sub _ h)
  have hsub : ∀ b ∈ wr, b ∈ S :: wr := fun b hb => List.mem_cons_of_mem _ hb
  intro k
  induction k with
  | zero =>
    intro i s hk hi hst hS hR
    have hin : i = n := by omega
    subst hin
    obtain ⟨es, ep, t, hS⟩ := hS
    refine codeAny_builtin PyProof.Rows.F.entry_set_update_loop ?_
    rw [Around.under_plainId PyProof.Rows.F.plain_set_update_loop _]
    show wpAny _ A.in1 (pyNext (.ref I) >>= _) _ _ s
    refine wpAny_bind (W.done s _ _ hst fun s' hm => ?_)
    show wpAny _ A.in1 (ret Value.none) _ _ s'
    exact wpAny_pure (hR s' es ep t (hm.mono hsub) (hS.at fun o e => hm.heap S _ hSw e))
  | succ k ih =>
    intro i s hk hi hst hS hR
    have hlt : i < n := by omega
    obtain ⟨es, ep, tb, hS⟩ := hS
    refine codeAny_builtin PyProof.Rows.F.entry_set_update_loop ?_
    rw [Around.under_plainId PyProof.Rows.F.plain_set_update_loop _]
    show wpAny _ A.in1 (pyNext (.ref I) >>= _) _ _ s
    refine wpAny_bind (W.item i s _ _ hlt hst fun v s' hP hst' hm => ?_)
    obtain ⟨tk, rfl⟩ := hval i v hP
    have hS' := hS.at fun o e => hm.heap S _ hSw e
    show wpAny _ A.in1 (holding [Value.str (xs.getD i Str.empty) tk] (setAdd S (.str (xs.getD i Str.empty) tk)) >>= _) _ _ s'
    refine wpAny_bind (wpAny_holding ?_)
    unfold setAdd
    refine wpAny_holding ?_
    refine wpAny_bind ((strKind P w).pyHash (k := xs.getD i Str.empty) (strKind_is _ _ _ _) ?_)
    refine str_add (s := { s' with toks := s'.toks + 1 }) hS' (by omega) fun c h' es' ep' t' hsb hS2 => ?_
    have hM : ∀ x, x ∈ xs.take (i + 1) ↔ x ∈ es'.toList.map skey := fun x => by
      rw [← hS2.mem x, List.take_add_one, List.mem_append]
      have e : xs[i]? = some (xs.getD i Str.empty) := by
        have : i < xs.length := by omega
        rw [List.getD_eq_getElem?_getD, List.getElem?_eq_getElem this]
        rfl
      rw [e]
      simp
    have hSi : StrR P w h' S (fun x => x ∈ xs.take (i + 1)) (i + 1) es' ep' t' := { hS2 with mem := hM }
    refine wpAny_pure ⟨plainId_quiet PyProof.Rows.F.plain_set_update_loop _, ih (i + 1) _ (by omega) hlt (W.frame _ s' _ _ hst' (Nat.le_succ _) fun b hb o e => ?_) ⟨es', ep', t', hSi⟩ fun s'' es'' ep'' t'' hm'' hS'' => ?_⟩
    · rw [hsb.2 b fun h : b = S => hSf (by rw [← h]; exact hb)]
      exact e
    · refine hR s'' es'' ep'' t'' (Moved.trans W.gtrans ((hm.mono hsub).then_heap (Nat.le_succ _) fun b o hb e => ?_) hm'') hS''
      rw [hsb.2 b fun h : b = S => hb (by rw [h]; exact List.mem_cons_self)]
      exact e
end
section
variable {P : Program} {w : World} {A : Around} {E : Value → Shared → Prop} {s : Shared}
theorem strR_fresh {h : Heap} {a : Addr} (ho : h.get? a = some { cls := .type "set", dict := none, data := .set #[] 0 (.fresh 0 0 (!w.params.followText "set-order")) }) : StrR P w h a (fun x => x ∈ ([] : List PySem.Str).take 0) 0 #[] 0 (.fresh 0 0 (!w.params.followText "set-order")) :=
  ⟨⟨_, ho, ⟨rfl, rfl, rfl⟩, rfl⟩, fun e he => by simp at he, by simp, fun k => by simp, Nat.le_refl _, by decide, by rfl, List.Pairwise.nil, by
    show _ ∨ (!w.params.followText "set-order") = true
    cases w.params.followText "set-order"
    · exact .inr rfl
    · exact .inl rfl⟩
abbrev noSet (w : World) : Obj := { cls := .type "set", dict := none, data := .set #[] 0 (.fresh 0 0 (!w.params.followText "set-order")) }
set_option maxHeartbeats 8000000 in
theorem call_set_strs {l : Addr} {items : Array Value} (xs : List PySem.Str) {Q : Value → Shared → Prop} (hh : A.handled = none) (hl : s.heap.IsList l items) (hi : StrsAre items.toList xs) (hn : xs.length + 1 < scanBound)
    (h : ∀ (h' : Heap) (tk : Nat) es ep t, StrR P w h' s.heap.objs.size (fun x => x ∈ xs) xs.length es ep t → (∀ b o, s.heap.get? b = some o → h'.get? b = some o) → Q (.ref s.heap.objs.size) { s with heap := h', toks := tk }) :
    wpAny (model P w) A (call (.type "set") [.ref l]) Q E s := by
  have hisz : items.size = xs.length := by
    have q := StrsAre.len_eq hi
    rw [Array.length_toList] at q
    exact q
  obtain ⟨c, tl, hmro⟩ := F.called_set.mro
  have hmade := F.called_set.made
  have hsub := F.called_set.sub
  refine wpAny_call (codeAny_of_tree ?_)
  show wpAny _ _ (callAny (.type "set") _) _ _ _
  refine wpAny_pure ⟨Code.quiet_builtin _ (by decide +kernel), codeAny_builtin F.entry_type_call ?_⟩
  rw [Around.under_plain (weight_type_call_type "set" [.ref l] []) rfl]
  have h1 := F.called_set.notType
  have h2 := F.called_set.canCreate
  have hct := F.typeCall_set_1 (.ref l)
  repeat (any_goals (first | assumption | wp_step))
  refine codeAny_mono (code_set_led1 (.ref l) (E := E) (Q₁ := fun obj s1 => obj = .ref s.heap.objs.size ∧ s1 = { s with heap := s.heap.push (noSet w) }) ⟨rfl, rfl⟩) fun r s1 hr => ?_
  cases r with
  | error e => exact hr
  | ok fl =>
    cases fl with
    | ret obj =>
      obtain ⟨rfl, rfl⟩ := hr
      have hS : (s.heap.push (noSet w)).get? s.heap.objs.size = some (noSet w) := Heap.get?_push_size _ rfl
      have hT : Shared.TypeIs { s with heap := s.heap.push (noSet w) } (.ref s.heap.objs.size) "set" := ⟨_, hS, rfl⟩
      have hli := F.called_set.init.lookup
      have hbi := F.called_set.init.bind (.ref s.heap.objs.size)
      repeat (any_goals (first | assumption | wp_step))
      refine codeAny_mono (codeAny_call_builtin (R := wants (fun r s2 => r = .none ∧ ∃ h' tk es ep t, s2 = { s with heap := h', toks := tk } ∧ StrR P w h' s.heap.objs.size (fun x => x ∈ xs) xs.length es ep t ∧ (∀ b o, s.heap.get? b = some o → h'.get? b = some o)) E)
        F.called_set.init.plain F.entry_set_init (check_set_init_1 hT ?_)) fun r2 s2 hr2 => ?_
      · obtain ⟨ol, hol, hcl, nl, hdl⟩ := hl
        obtain ⟨ocls, odict, odata, oslots⟩ := ol
        simp only at hcl hdl
        subst hcl
        subst hdl
        have hol' : (s.heap.push (noSet w)).get? l = some { cls := .type "list", dict := odict, data := .seq items nl, slots := oslots } := Heap.get?_push_of_some _ hol
        have hsls := F.sub_list_set
        have hslf := F.sub_list_frozenset
        have hne : (Value.type "list" == Value.type "dict") = false := by decide
        have hl1 : (s.heap.push (noSet w)).IsList l items := ⟨_, hol', rfl, nl, rfl⟩
        unfold Builtin.«set.__init__» noKeywords Builtin.Frozenset.updateFrom
        generalize hPI : pyIter = PI
        wp_walk
        subst hPI
        refine wpAny_pyIter_list hl1 ?_
        refine wpAny_bind (wpAny_runValue ?_)
        have hlS : l < s.heap.objs.size := Heap.lt_size hol
        have hh3 : A.in1.in1.in1.handled = none := by simp [hh]
        have hz1 : (s.heap.push (noSet w)).objs.size = s.heap.objs.size + 1 := Heap.size_push ..
        have hneI : l ≠ (s.heap.push (noSet w)).objs.size := by
          rw [hz1]
          exact Nat.ne_of_lt (Nat.lt_succ_of_lt hlS)
        have hSf : s.heap.objs.size ∉ [(s.heap.push (noSet w)).objs.size, l] := by
          rw [hz1]
          simp only [List.mem_cons, List.not_mem_nil, or_false, not_or]
          exact ⟨Nat.ne_of_lt (Nat.lt_succ_self _), Nat.ne_of_gt hlS⟩
        have hval : ∀ (i : Nat) (v : Value), items[i]? = some v → ∃ t, v = .str (xs.getD i Str.empty) t := fun i v hv => SS.strs_at hi i v (by rw [Array.getElem?_toList]; exact hv)
        refine str_loop ((Walks.list hh3 _ l hneI items).toS) s.heap.objs.size hSf xs hisz.symm (by rw [hisz]; exact hn) hval (items.size - 0) 0 _ (by omega) (Nat.zero_le _) ⟨⟨_, Heap.get?_push_size _ rfl, rfl, rfl⟩, (hl1.push _)⟩ ?hS0 ?hR
        case hS0 =>
          exact ⟨#[], 0, _, strR_fresh (Heap.get?_push_of_some _ hS)⟩
        case hR =>
          intro s' es ep t hm hS'
          obtain ⟨h', g2, d', tk', os'⟩ := s'
          have eg : g2 = s.gens := hm.gens
          have ed : d' = s.drawn := hm.drawn
          have eo : os' = s.os := hm.os
          subst eg
          subst ed
          subst eo
          show wpAny _ _ _ _ _ _
          refine wpAny_pure ?_
          show wpAny _ _ (ret Value.none) _ _ _
          rw [hisz, List.take_length] at hS'
          refine wpAny_pure ⟨rfl, h', tk', es, ep, t, rfl, hS', fun b o e => ?_⟩
          have hb := Heap.lt_size e
          refine hm.heap b o ?_ (Heap.get?_push_of_some _ (Heap.get?_push_of_some _ e))
          rw [hz1]
          simp only [List.mem_cons, List.not_mem_nil, or_false, not_or]
          exact ⟨Nat.ne_of_lt hb, Nat.ne_of_lt (Nat.lt_succ_of_lt hb)⟩
      · cases r2 with
        | error e => exact hr2
        | ok fl2 =>
          cases fl2 with
          | ret r =>
            obtain ⟨rfl, h', tk, es, ep, t, rfl, hS', hk'⟩ := hr2
            repeat (any_goals (first | assumption | wp_step))
            exact h _ _ _ _ _ hS' hk'
          | _ => exact hr2.elim
    | _ => exact hr.elim
theorem call_set_strsT {l : Addr} {items : Array Value} (xs : List PySem.Str) {Q : Value → Shared → Prop} (hh : A.handled = none) (hl : s.heap.IsTuple l items) (hi : StrsAre items.toList xs) (hn : xs.length + 1 < scanBound)
    (h : ∀ (h' : Heap) (tk : Nat) es ep t, StrR P w h' s.heap.objs.size (fun x => x ∈ xs) xs.length es ep t → (∀ b o, s.heap.get? b = some o → h'.get? b = some o) → Q (.ref s.heap.objs.size) { s with heap := h', toks := tk }) :
    wpAny (model P w) A (call (.type "set") [.ref l]) Q E s := by
  have hisz : items.size = xs.length := by
    have q := StrsAre.len_eq hi
    rw [Array.length_toList] at q
    exact q
  obtain ⟨c, tl, hmro⟩ := F.called_set.mro
  have hmade := F.called_set.made
  have hsub := F.called_set.sub
  refine wpAny_call (codeAny_of_tree ?_)
  show wpAny _ _ (callAny (.type "set") _) _ _ _
  refine wpAny_pure ⟨Code.quiet_builtin _ (by decide +kernel), codeAny_builtin F.entry_type_call ?_⟩
  rw [Around.under_plain (weight_type_call_type "set" [.ref l] []) rfl]
  have h1 := F.called_set.notType
  have h2 := F.called_set.canCreate
  have hct := F.typeCall_set_1 (.ref l)
  repeat (any_goals (first | assumption | wp_step))
  refine codeAny_mono (code_set_led1 (.ref l) (E := E) (Q₁ := fun obj s1 => obj = .ref s.heap.objs.size ∧ s1 = { s with heap := s.heap.push (noSet w) }) ⟨rfl, rfl⟩) fun r s1 hr => ?_
  cases r with
  | error e => exact hr
  | ok fl =>
    cases fl with
    | ret obj =>
      obtain ⟨rfl, rfl⟩ := hr
      have hS : (s.heap.push (noSet w)).get? s.heap.objs.size = some (noSet w) := Heap.get?_push_size _ rfl
      have hT : Shared.TypeIs { s with heap := s.heap.push (noSet w) } (.ref s.heap.objs.size) "set" := ⟨_, hS, rfl⟩
      have hli := F.called_set.init.lookup
      have hbi := F.called_set.init.bind (.ref s.heap.objs.size)
      repeat (any_goals (first | assumption | wp_step))
      refine codeAny_mono (codeAny_call_builtin (R := wants (fun r s2 => r = .none ∧ ∃ h' tk es ep t, s2 = { s with heap := h', toks := tk } ∧ StrR P w h' s.heap.objs.size (fun x => x ∈ xs) xs.length es ep t ∧ (∀ b o, s.heap.get? b = some o → h'.get? b = some o)) E)
        F.called_set.init.plain F.entry_set_init (check_set_init_1 hT ?_)) fun r2 s2 hr2 => ?_
      · obtain ⟨ol, hol, hcl, nl, hdl⟩ := hl
        obtain ⟨ocls, odict, odata, oslots⟩ := ol
        simp only at hcl hdl
        subst hcl
        subst hdl
        have hol' : (s.heap.push (noSet w)).get? l = some { cls := .type "tuple", dict := odict, data := .seq items nl, slots := oslots } := Heap.get?_push_of_some _ hol
        have hsls := F.sub_tuple_set
        have hslf := F.sub_tuple_frozenset
        have hne : (Value.type "tuple" == Value.type "dict") = false := by decide
        have hl1 : (s.heap.push (noSet w)).IsTuple l items := ⟨_, hol', rfl, nl, rfl⟩
        unfold Builtin.«set.__init__» noKeywords Builtin.Frozenset.updateFrom
        generalize hPI : pyIter = PI
        wp_walk
        subst hPI
        refine wpAny_pyIter_tuple hl1 ?_
        refine wpAny_bind (wpAny_runValue ?_)
        have hlS : l < s.heap.objs.size := Heap.lt_size hol
        have hh3 : A.in1.in1.in1.handled = none := by simp [hh]
        have hz1 : (s.heap.push (noSet w)).objs.size = s.heap.objs.size + 1 := Heap.size_push ..
        have hneI : l ≠ (s.heap.push (noSet w)).objs.size := by
          rw [hz1]
          exact Nat.ne_of_lt (Nat.lt_succ_of_lt hlS)
        have hSf : s.heap.objs.size ∉ [(s.heap.push (noSet w)).objs.size, l] := by
          rw [hz1]
          simp only [List.mem_cons, List.not_mem_nil, or_false, not_or]
          exact ⟨Nat.ne_of_lt (Nat.lt_succ_self _), Nat.ne_of_gt hlS⟩
        have hval : ∀ (i : Nat) (v : Value), items[i]? = some v → ∃ t, v = .str (xs.getD i Str.empty) t := fun i v hv => SS.strs_at hi i v (by rw [Array.getElem?_toList]; exact hv)
        refine str_loop ((Walks.tuple hh3 _ l hneI items).toS) s.heap.objs.size hSf xs hisz.symm (by rw [hisz]; exact hn) hval (items.size - 0) 0 _ (by omega) (Nat.zero_le _) ⟨⟨_, Heap.get?_push_size _ rfl, rfl, rfl⟩, (hl1.push _)⟩ ?hS0 ?hR
        case hS0 =>
          exact ⟨#[], 0, _, strR_fresh (Heap.get?_push_of_some _ hS)⟩
        case hR =>
          intro s' es ep t hm hS'
          obtain ⟨h', g2, d', tk', os'⟩ := s'
          have eg : g2 = s.gens := hm.gens
          have ed : d' = s.drawn := hm.drawn
          have eo : os' = s.os := hm.os
          subst eg
          subst ed
          subst eo
          show wpAny _ _ _ _ _ _
          refine wpAny_pure ?_
          show wpAny _ _ (ret Value.none) _ _ _
          rw [hisz, List.take_length] at hS'
          refine wpAny_pure ⟨rfl, h', tk', es, ep, t, rfl, hS', fun b o e => ?_⟩
          have hb := Heap.lt_size e
          refine hm.heap b o ?_ (Heap.get?_push_of_some _ (Heap.get?_push_of_some _ e))
          rw [hz1]
          simp only [List.mem_cons, List.not_mem_nil, or_false, not_or]
          exact ⟨Nat.ne_of_lt hb, Nat.ne_of_lt (Nat.lt_succ_of_lt hb)⟩
      · cases r2 with
        | error e => exact hr2
        | ok fl2 =>
          cases fl2 with
          | ret r =>
            obtain ⟨rfl, h', tk, es, ep, t, rfl, hS', hk'⟩ := hr2
            repeat (any_goals (first | assumption | wp_step))
            exact h _ _ _ _ _ hS' hk'
          | _ => exact hr2.elim
    | _ => exact hr.elim
end
end Bz

namespace Bz
open PySem PySem.Spec PyProof.Rows L2
/-- texts, each once, ascending -/
def Asc (ys : List PySem.Str) : Prop := ys.Pairwise fun x y => x.cps.toList < y.cps.toList
section
variable {P : Program} {w : World} {A : Around} {E : Value → Shared → Prop} {s : Shared} {a : Addr} {M : PySem.Str → Prop} {b : Nat} {es : Array (Int × Value)} {ep : Nat} {t : SetTable}
theorem asc_of {ys : List PySem.Str} (h : ys.Pairwise fun x y => ¬ y.cps.toList < x.cps.toList) (nd : ys.Nodup) : Asc ys := by
  unfold Asc
  refine (List.pairwise_and_iff.mpr ⟨h, nd⟩).imp fun {x y} ⟨h1, h2⟩ => ?_
  exact Classical.byContradiction fun c => h2 (ext_tl (List.le_antisymm (List.not_lt.mp h1) (List.not_lt.mp c)))
theorem sorted_strs {Q : Value → Shared → Prop} (R : StrR P w s.heap a M b es ep t) (hh : A.handled = none)
    (hQ : ∀ s' p (out : List Value) (c : Nat) (ys : List PySem.Str), (∀ b o, s.heap.get? b = some o → s'.heap.get? b = some o) → s'.gens = s.gens → s'.os = s.os → s.heap.objs.size ≤ p →
      s'.heap.get? p = some (seqObj "list" out.toArray c) → StrsAre out ys → Asc ys → (∀ k, k ∈ ys ↔ M k) → ys.length ≤ b → Q (.ref p) s') :
    wpAny (model P w) A (call (.builtin "sorted") [.ref a]) Q E s := by
  obtain ⟨⟨o, ho, hex, hd⟩, hel, nd, hm, hsz, hb, hf, hr, hl⟩ := R
  have hlt : es.size < scanBound := Nat.lt_of_le_of_lt hsz hb
  refine Calls.call_function_entry kind_sorted plain_sorted entry_sorted (args_sorted1 _) ?_
  unfold Builtin.«sorted»
  refine wpAny_bind (m := checkCount "sorted" 1 1 _) (wpAny_pure ?_)
  refine wpAny_bind (collect_set (A := A.in1) hh ⟨o, ho, hex.1, hd⟩ hf hlt hr hl fun s1 vs k1 hz g1 o1 pm => ?_)
  have hvl : vs.length = es.size := by
    rw [pm.length_eq, List.length_map, Array.length_toList]
  have hS : StrsAre vs (vs.map strOf) := strsAre_map vs fun v hv => by
    obtain ⟨e, he, q⟩ := List.mem_map.mp (pm.mem_iff.mp hv)
    obtain ⟨tk, h1⟩ := el_str hel he
    exact ⟨skey e, tk, by rw [← q, h1]; rfl⟩
  have pk : (vs.map strOf).Perm (es.toList.map skey) := by
    have q := pm.map strOf
    rw [List.map_map] at q
    exact q
  have hvs : vs.length ≤ sizeLine := Evl.sz_of (by
    have : scanBound = 4096 := rfl
    omega)
  refine wpAny_bind (wpAny_newList ?_ hvs)
  have hoL : (s1.heap.push (seqObj "list" vs.toArray 0)).get? s1.heap.objs.size = some (seqObj "list" vs.toArray 0) := Heap.get?_push_size _ rfl
  refine wpAny_bind (wpAny_holding (wpAny_call_entry slot_list_sort ⟨_, hoL, rfl⟩ entry_list_sort (SrtO.list_sort_ord ltV_swo hoL hvs (fun h2 => strs_sortable hS h2) fun out a1 a2 => ⟨_, rfl, ?_⟩) (args_list_sort _)))
  obtain ⟨q1, q2, q3⟩ := strs_out hS a1 a2
  obtain ⟨c, hc⟩ := sortedHeap_at (vs := vs) (out := out.toArray) hoL
  have pn : (out.map strOf).Perm (es.toList.map skey) := q2.trans pk
  refine wpAny_pure ⟨_, rfl, hQ _ s1.heap.objs.size out c (out.map strOf) (fun b u e => ?_) g1 o1 hz hc q1 (asc_of q3 (pn.nodup_iff.mpr nd)) (fun k => by rw [pn.mem_iff, ← hm k]) ?_⟩
  · have q := k1 b u e
    have hlt := Heap.lt_size q
    show (sortedHeap (s1.heap.push (seqObj "list" vs.toArray 0)) s1.heap.objs.size vs out.toArray).get? b = some u
    rw [sortedHeap_old (Nat.ne_of_lt hlt) (by rw [size_push']; exact Nat.lt_succ_of_lt hlt)]
    exact Heap.get?_push_of_some _ q
  · rw [pn.length_eq, List.length_map, Array.length_toList]
    exact hsz
end
/-- at t: a list or a tuple -/
def SqE (K : PySem.W.Frag) (H : Hp) (t : Addr) (xs : List V) : Prop := SqL K H t xs ∨ SqT K H t xs
theorem sqt_same {K : PySem.W.Frag} {H H' : Hp} {a : Addr} {xs : List V} (e : Same H H') (h : SqT K H a xs) : SqT K H' a xs := h.elim (fun h => .inl (h.elim (fun h => .inl (e _ _ h)) (fun ⟨u, h⟩ => .inr ⟨u, e _ _ h⟩))) .inr
theorem SqE.same {K : PySem.W.Frag} {H H' : Hp} {a : Addr} {xs : List V} (h : SqE K H a xs) (e : Same H H') : SqE K H' a xs := h.imp (fun h => e.seq h) (fun h => sqt_same e h)
theorem SqE.star {K : PySem.W.Frag} {H : Hp} {a : Addr} {xs : List V} (h : SqE K H a xs) : SqT K H a xs ∨ SqL K H a xs := h.symm
/-- at a: a set of the texts of M, at most b -/
def SetSO (P : Program) (w : World) (a : Addr) (M : PySem.Str → Prop) (b : Nat) : HO := .ext fun h => ∃ es ep t, StrR P w h a M b es ep t
theorem setSO_new {P : Program} {w : World} {H : Hp} {h : Heap} {a : Addr} {M : PySem.Str → Prop} {b : Nat} (R : ∃ es ep t, StrR P w h a M b es ep t) : ObjOk P w H h a (SetSO P w a M b) := by
  obtain ⟨es, ep, t, R⟩ := R
  obtain ⟨o, ho, _⟩ := R.ob
  exact ⟨⟨es, ep, t, R⟩, ⟨o, ho⟩, fun h1 h2 ⟨es, ep, t, r⟩ k => ⟨es, ep, t, r.at fun o q => k o q⟩⟩
def rSetS (K : PySem.W.Frag) (P : Program) (w : World) : List V → Hp → VK → Prop := fun xs H Q => ∃ (l : Addr) (ys : List PySem.Str), xs = [.ref l] ∧ SqE K H l (ys.map V.str) ∧ ys.length ≤ 4000 ∧
  ∀ p, H p = none → Q (.ref p) (upd H p (SetSO P w p (fun x => x ∈ ys) ys.length))
theorem cr_setS {X : Cx} (hc : X.calm = true) : CallR X (.type "set") (rSetS X.K X.prog X.w) := by
  intro pins s σ H xs us Q I r h
  obtain ⟨l, ys, rfl, hq, hn, q⟩ := h
  rw [Vals.ref1 r]
  rcases hq with hq | hq
  · obtain ⟨its, rv, pl, hz⟩ := I.list hq
    refine call_set_strs (items := its.toArray) ys (I.ok.hd hc) pl.isList (by rw [List.toList_toArray]; exact rv.strs) (by unfold scanBound; omega) fun h' tk es ep t R k => ?_
    exact ⟨.ref _, upd H s.heap.objs.size (SetSO X.prog X.w s.heap.objs.size (fun x => x ∈ ys) ys.length), I.laid (t' := tk) k (Nat.le_refl _) (setSO_new ⟨es, ep, t, R⟩), rfl, q _ (I.hok.fresh (Nat.le_refl _))⟩
  · obtain ⟨its, rv, pl, hz⟩ := I.tuple hq
    refine call_set_strsT (items := its.toArray) ys (I.ok.hd hc) pl (by rw [List.toList_toArray]; exact rv.strs) (by unfold scanBound; omega) fun h' tk es ep t R k => ?_
    exact ⟨.ref _, upd H s.heap.objs.size (SetSO X.prog X.w s.heap.objs.size (fun x => x ∈ ys) ys.length), I.laid (t' := tk) k (Nat.le_refl _) (setSO_new ⟨es, ep, t, R⟩), rfl, q _ (I.hok.fresh (Nat.le_refl _))⟩
def rSortedSetS (P : Program) (w : World) : List V → Hp → VK → Prop := fun xs H Q => ∃ (a : Addr) (M : PySem.Str → Prop) (b : Nat), xs = [.ref a] ∧ H a = some (SetSO P w a M b) ∧
  ∀ (ys : List PySem.Str) (p : Addr), Asc ys → (∀ k, k ∈ ys ↔ M k) → ys.length ≤ b → H p = none → Q (.ref p) (upd H p (.lst (ys.map V.str)))
theorem cr_sortedSetS {X : Cx} (hc : X.calm = true) : CallR X (.builtin "sorted") (rSortedSetS X.prog X.w) := by
  intro pins s σ H xs us Q I r h
  obtain ⟨a, M, b, rfl, ha, q⟩ := h
  rw [Vals.ref1 r]
  obtain ⟨⟨es, ep, t, R⟩, _, _⟩ := I.hok a _ ha
  refine sorted_strs R (I.ok.hd hc) fun s' p out c ys k g o hp hg hi hs hm hl => ?_
  have hlen : (ys.map V.str).length ≤ sizeLine := by
    rw [List.length_map]
    have := R.few
    exact Evl.sz_of (by
      have : scanBound = 4096 := rfl
      omega)
  have hn : H p = none := I.hok.fresh hp
  have J : Inv X pins σ (upd H p (.lst (ys.map V.str))) { s with heap := s'.heap, gens := s'.gens, drawn := s'.drawn, toks := s'.toks } :=
    I.call (ch := []) (Un.laid k hp hn) (I.hok.laid k hp ⟨hlen, out, c, vals_of_strs hi, hg⟩) (by rw [g]; exact I.bare) (fun _ z => nomatch z)
  have e : s' = { s with heap := s'.heap, gens := s'.gens, drawn := s'.drawn, toks := s'.toks } := by
    cases s'
    cases s
    cases o
    rfl
  rw [e]
  exact ⟨.ref p, _, J, rfl, q ys p hs hm hl hn⟩
theorem ksetS (K : PySem.W.Frag) {X : Cx} (hc : X.calm = true) (h : X.K = K := by rfl) : CallR X (.type "set") (rSetS K X.prog X.w) := by subst h; exact cr_setS hc
/-- ascending lists of the same texts are one -/
theorem asc_uniq : ∀ {xs ys : List PySem.Str}, Asc xs → Asc ys → (∀ k, k ∈ xs ↔ k ∈ ys) → xs = ys
  | [], [], _, _, _ => rfl
  | [], y :: ys, _, _, h => absurd ((h y).mpr (List.mem_cons_self ..)) (by simp)
  | x :: xs, [], _, _, h => absurd ((h x).mp (List.mem_cons_self ..)) (by simp)
  | x :: xs, y :: ys, hx, hy, h => by
    obtain ⟨x1, x2⟩ := List.pairwise_cons.mp hx
    obtain ⟨y1, y2⟩ := List.pairwise_cons.mp hy
    have e : x = y := by
      rcases List.mem_cons.mp ((h x).mp (List.mem_cons_self ..)) with e | hxy
      · exact e
      · rcases List.mem_cons.mp ((h y).mpr (List.mem_cons_self ..)) with e | hyx
        · exact e.symm
        · exact absurd (List.lt_trans (y1 x hxy) (x1 y hyx)) (List.lt_irrefl _)
    subst e
    have h' : ∀ k, k ∈ xs ↔ k ∈ ys := fun k => by
      constructor
      · intro hk
        rcases List.mem_cons.mp ((h k).mp (List.mem_cons_of_mem _ hk)) with e | z
        · rw [e] at hk
          exact absurd (x1 x hk) (List.lt_irrefl _)
        · exact z
      · intro hk
        rcases List.mem_cons.mp ((h k).mpr (List.mem_cons_of_mem _ hk)) with e | z
        · rw [e] at hk
          exact absurd (y1 x hk) (List.lt_irrefl _)
        · exact z
    rw [asc_uniq x2 y2 h']
end Bz

namespace Bz
open PySem PySem.Spec PyProof.Rows L2
/-! ### names, letters, prices, as the program asks for them -/
def onlyB (s : PySem.Str) : Bool := decide (1 ≤ s.length) && (TL.tl s).all fun c => decide (97 ≤ c) && decide (c ≤ 122)
theorem low_tab : ∀ c : Fin 128, (Unicode.isAlpha c.val = (decide (65 ≤ c.val) && decide (c.val ≤ 90) || decide (97 ≤ c.val) && decide (c.val ≤ 122))) ∧ (Unicode.isLower c.val = (decide (97 ≤ c.val) && decide (c.val ≤ 122))) ∧
    ((Unicode.isUpper c.val || Unicode.isTitle c.val) = (decide (65 ≤ c.val) && decide (c.val ≤ 90))) := by decide +kernel
theorem all_tl (s : PySem.Str) (p : Nat → Bool) : s.cps.all p = (TL.tl s).all p := by
  show s.cps.all p = s.cps.toList.all p
  rw [Array.all_toList]
theorem any_tl (s : PySem.Str) (p : Nat → Bool) : s.cps.any p = (TL.tl s).any p := by
  show s.cps.any p = s.cps.toList.any p
  rw [Array.any_toList]
theorem only_ok (s : PySem.Str) : (Txt.isascii s && (Txt.isalpha s && Txt.islower s)) = onlyB s := by
  unfold Txt.isascii Txt.isalpha Txt.islower onlyB
  rw [all_tl, all_tl, any_tl, any_tl, len_tl]
  generalize TL.tl s = l
  rw [Bool.eq_iff_iff]
  simp only [Bool.and_eq_true, List.all_eq_true, decide_eq_true_eq, List.any_eq_true, Bool.not_eq_true', List.any_eq_false]
  constructor
  · rintro ⟨h1, ⟨h2, h3⟩, h4, h5⟩
    refine ⟨by have := h2; simp only [gt_iff_lt, decide_eq_true_eq] at this; omega, fun c hc => ?_⟩
    obtain ⟨t1, _, t3⟩ := low_tab ⟨c, h1 c hc⟩
    have a := h3 c hc
    have b := h5 c hc
    rw [t1] at a
    have b' : (Unicode.isUpper c || Unicode.isTitle c) = false := by simpa using b
    rw [t3] at b'
    simp only [Bool.or_eq_true, Bool.and_eq_true, decide_eq_true_eq] at a
    simp only [Bool.and_eq_false_iff, decide_eq_false_iff_not] at b'
    omega
  · rintro ⟨h1, h2⟩
    have hs : ∀ c ∈ l, c < 128 := fun c hc => by have := h2 c hc; omega
    refine ⟨hs, ⟨by simp only [gt_iff_lt, decide_eq_true_eq]; omega, fun c hc => ?_⟩, ?_, fun c hc => ?_⟩
    · obtain ⟨t1, _, _⟩ := low_tab ⟨c, hs c hc⟩
      rw [t1]
      have := h2 c hc
      simp only [Bool.or_eq_true, Bool.and_eq_true, decide_eq_true_eq]
      omega
    · cases l with
      | nil => simp at h1
      | cons c r =>
        refine ⟨c, List.mem_cons_self .., ?_⟩
        obtain ⟨_, t2, _⟩ := low_tab ⟨c, hs c (List.mem_cons_self ..)⟩
        rw [t2]
        have := h2 c (List.mem_cons_self ..)
        simp only [Bool.and_eq_true, decide_eq_true_eq]
        exact this
    · obtain ⟨_, _, t3⟩ := low_tab ⟨c, hs c hc⟩
      have := h2 c hc
      have q : (decide (65 ≤ c) && decide (c ≤ 90)) = false := by
        simp only [Bool.and_eq_false_iff, decide_eq_false_iff_not]
        omega
      rw [q] at t3
      simpa using t3
theorem nmB_only (s : PySem.Str) : nmB s = (decide (s.length ≤ 8) && onlyB s) := by
  unfold nmB onlyB
  rw [Bool.eq_iff_iff]
  simp only [Bool.and_eq_true]
  constructor
  · rintro ⟨⟨a, b⟩, c⟩
    exact ⟨b, a, c⟩
  · rintro ⟨b, a, c⟩
    exact ⟨⟨a, b⟩, c⟩
theorem only_of {s : PySem.Str} (h : Nm s) : onlyB s = true := by
  have q := nmB_only s
  rw [nmB_iff.mpr h] at q
  simp only [Bool.true_eq, Bool.and_eq_true] at q
  exact q.2
def ltB (s : PySem.Str) : Bool := decide (s.length = 1) && onlyB s
theorem ltB_of {s : PySem.Str} (h : Lt s) : ltB s = true := by
  unfold ltB onlyB
  have := h.1
  simp only [Bool.and_eq_true, decide_eq_true_eq, List.all_eq_true]
  exact ⟨this, by omega, fun c hc => h.2 c hc⟩
def prB (i : Int) : Bool := decide (0 ≤ i) && decide (i ≤ 99)
def arB (x : Arw) : Bool := nmB x.s && (ltB x.l && (nmB x.t && prB x.c))
theorem arB_of {x : Arw} (h : x.Ok) : arB x = true := by
  unfold arB prB
  rw [nmB_iff.mpr h.s, nmB_iff.mpr h.t, ltB_of h.l]
  simp only [Bool.true_and, Bool.and_eq_true, decide_eq_true_eq]
  exact ⟨h.c0, h.c1⟩
def spIsInt (K : PySem.W.Frag) : Sp := fun vs H Q _ => ∃ (v : V) (t : String), vs = [v] ∧ TyX K H v (.type t) ∧ t ∈ ["NoneType", "bool", "int", "str", "list", "tuple", "dict", "float", "set", "bytes"] ∧ Q (.bl (decide (t = "int"))) H
def spOnly : Sp := fun vs H Q _ => ∃ s : PySem.Str, vs = [.str s] ∧ Q (.bl (onlyB s)) H
def spIsName : Sp := fun vs H Q _ => ∃ s : PySem.Str, vs = [.str s] ∧ s.length ≤ 100000 ∧ Q (.bl (nmB s)) H
def spIsLetter : Sp := fun vs H Q _ => ∃ s : PySem.Str, vs = [.str s] ∧ s.length ≤ 100000 ∧ Q (.bl (ltB s)) H
def spIsPrice : Sp := fun vs H Q _ => ∃ i : Int, vs = [.int i] ∧ Q (.bl (prB i)) H
def spIsArrow (K : PySem.W.Frag) : Sp := fun vs H Q _ => ∃ (q : Addr) (x : Arw), vs = [.ref q] ∧ H q = some (.tup x.vals) ∧ x.s.length ≤ 100000 ∧ x.l.length ≤ 100000 ∧ x.t.length ≤ 100000 ∧ ∀ H', Same H H' → Q (.bl (arB x)) H'
theorem kit_in {K : PySem.W.Frag} {t : String} (h : t ∈ ["NoneType", "bool", "int", "str", "list", "tuple", "dict", "float", "set", "bytes"]) :
    PySem.W.kitOne K (.type t) (.type "int") = some (decide (t = "int") || decide (t = "bool")) ∧ PySem.W.kitOne K (.type t) (.type "bool") = some (decide (t = "bool")) ∧ PySem.W.kitOne K (.type t) (.type "str") = some (decide (t = "str")) ∧
      PySem.W.kitOne K (.type t) (.type "tuple") = some (decide (t = "tuple")) ∧ PySem.W.kitOne K (.type t) (.type "list") = some (decide (t = "list")) := by
  simp only [List.mem_cons, List.not_mem_nil, or_false] at h
  rcases h with h | h | h | h | h | h | h | h | h | h <;> subst h <;> exact ⟨kit_ty (by decide +kernel), kit_ty (by decide +kernel), kit_ty (by decide +kernel), kit_ty (by decide +kernel), kit_ty (by decide +kernel)⟩
end Bz

namespace Bz
open PySem PySem.Spec PyProof.Rows L2
/-! ### of arrows alike but for the price the cheapest -/
def Arw.k3 (x : Arw) : List Ky := [.inr x.s, .inr x.l, .inr x.t]
def Arw.ks (x : Arw) : List Ky := [.inr x.s, .inr x.l, .inr x.t, .inl x.c]
theorem Arw.k3_eq {x y : Arw} (h : x.k3 = y.k3) : x.s = y.s ∧ x.l = y.l ∧ x.t = y.t := by
  unfold Arw.k3 at h
  simp only [List.cons.injEq, Sum.inr.injEq, and_true] at h
  exact h
theorem Arw.eq_of {x y : Arw} (h : x.k3 = y.k3) (hc : x.c = y.c) : x = y := by
  obtain ⟨h1, h2, h3⟩ := Arw.k3_eq h
  cases x
  cases y
  simp only at h1 h2 h3 hc
  rw [h1, h2, h3, hc]
theorem lex_ks {x y : Arw} (h : x.k3 ≠ y.k3) : lexK x.ks y.ks = lexK x.k3 y.k3 := by
  unfold Arw.ks Arw.k3
  unfold lexK
  by_cases h1 : (Sum.inr x.s : Ky) = .inr y.s
  · rw [if_pos h1, if_pos h1]
    unfold lexK
    by_cases h2 : (Sum.inr x.l : Ky) = .inr y.l
    · rw [if_pos h2, if_pos h2]
      unfold lexK
      by_cases h3 : (Sum.inr x.t : Ky) = .inr y.t
      · exfalso
        refine h ?_
        unfold Arw.k3
        rw [h1, h2, h3]
      · rw [if_neg h3, if_neg h3]
    · rw [if_neg h2, if_neg h2]
  · rw [if_neg h1, if_neg h1]
def mstep (k : List Ky) (o : Option Int) (x : Arw) : Option Int := if x.k3 = k then some (if o.getD x.c < x.c then o.getD x.c else x.c) else o
def minC (l : List Arw) (k : List Ky) : Option Int := l.foldl (mstep k) none
theorem minC_snoc (l : List Arw) (x : Arw) (k : List Ky) : minC (l ++ [x]) k = mstep k (minC l k) x := by
  unfold minC
  rw [List.foldl_append]
  rfl
theorem fold_min {k : List Ky} : ∀ (l : List Arw) (o : Option Int),
    (∀ m, l.foldl (mstep k) o = some m → (o = some m ∨ ∃ x ∈ l, x.k3 = k ∧ x.c = m) ∧ (∀ x ∈ l, x.k3 = k → m ≤ x.c) ∧ ∀ z, o = some z → m ≤ z) ∧
    (l.foldl (mstep k) o = none → o = none ∧ ∀ x ∈ l, x.k3 ≠ k)
  | [], o => ⟨fun m h => ⟨.inl h, fun x hx => (by cases hx), fun z hz => by have e : o = some m := h; rw [hz] at e; have := Option.some.inj e; omega⟩, fun h => ⟨h, fun x hx => (by cases hx)⟩⟩
  | x :: l, o => by
    obtain ⟨i1, i2⟩ := fold_min l (mstep k o x)
    constructor
    · intro m h
      obtain ⟨a, b, c⟩ := i1 m h
      by_cases e : x.k3 = k
      · have es : mstep k o x = some (if o.getD x.c < x.c then o.getD x.c else x.c) := by
          unfold mstep
          rw [if_pos e]
        have c' := c _ es
        refine ⟨?_, fun y hy ey => ?_, fun z hz => ?_⟩
        · rcases a with a | ⟨y, hy, ey⟩
          · rw [es] at a
            have a' := Option.some.inj a
            by_cases lt : o.getD x.c < x.c
            · rw [if_pos lt] at a'
              cases o with
              | none => exact absurd lt (by show ¬ x.c < x.c; omega)
              | some z => exact .inl (by rw [← a']; rfl)
            · rw [if_neg lt] at a'
              exact .inr ⟨x, List.mem_cons_self .., e, a'⟩
          · exact .inr ⟨y, List.mem_cons_of_mem _ hy, ey⟩
        · rcases List.mem_cons.mp hy with rfl | hy
          · split at c' <;> omega
          · exact b y hy ey
        · rw [hz] at c'
          have g : (some z).getD x.c = z := rfl
          rw [g] at c'
          split at c' <;> omega
      · have es : mstep k o x = o := by
          unfold mstep
          rw [if_neg e]
        rw [es] at a c
        refine ⟨?_, fun y hy ey => ?_, c⟩
        · rcases a with a | ⟨y, hy, ey⟩
          · exact .inl a
          · exact .inr ⟨y, List.mem_cons_of_mem _ hy, ey⟩
        · rcases List.mem_cons.mp hy with rfl | hy
          · exact absurd ey e
          · exact b y hy ey
    · intro h
      obtain ⟨a, b⟩ := i2 h
      by_cases e : x.k3 = k
      · unfold mstep at a
        rw [if_pos e] at a
        cases a
      · have es : mstep k o x = o := by
          unfold mstep
          rw [if_neg e]
        rw [es] at a
        refine ⟨a, fun y hy => ?_⟩
        rcases List.mem_cons.mp hy with rfl | hy
        · exact e
        · exact b y hy
theorem minC_some {l : List Arw} {k : List Ky} {m : Int} (h : minC l k = some m) : (∃ x ∈ l, x.k3 = k ∧ x.c = m) ∧ ∀ x ∈ l, x.k3 = k → m ≤ x.c := by
  obtain ⟨a, b, _⟩ := (fold_min l none).1 m h
  refine ⟨?_, b⟩
  rcases a with a | a
  · cases a
  · exact a
theorem minC_none {l : List Arw} {k : List Ky} (h : minC l k = none) : ∀ x ∈ l, x.k3 ≠ k := ((fold_min l none).2 h).2
/-- ys: the arrows of xs that count, ascending -/
structure CheapOf (xs ys : List Arw) : Prop where
  asc : ys.Pairwise fun x y => lexK x.k3 y.k3 = true
  sub : ∀ y ∈ ys, y ∈ xs ∧ ∀ x ∈ xs, x.k3 = y.k3 → y.c ≤ x.c
  all : ∀ x ∈ xs, ∃ y ∈ ys, y.k3 = x.k3
theorem CheapOf.uniq {xs ys zs : List Arw} (h1 : CheapOf xs ys) (h2 : CheapOf xs zs) : ys = zs := by
  have sub : ∀ {ys zs : List Arw}, CheapOf xs ys → CheapOf xs zs → ∀ y ∈ ys, y ∈ zs := by
    intro ys zs h1 h2 y hy
    obtain ⟨hx, hm⟩ := h1.sub y hy
    obtain ⟨z, hz, ez⟩ := h2.all y hx
    obtain ⟨hzx, hzm⟩ := h2.sub z hz
    have e : z = y := Arw.eq_of ez (by
      have a := hm z hzx ez
      have b := hzm y hx ez.symm
      omega)
    rw [← e]
    exact hz
  have irr : ∀ x : Arw, lexK x.k3 x.k3 = false := fun x => lexK_irr _
  have key : ∀ {ys zs : List Arw}, (ys.Pairwise fun x y => lexK x.k3 y.k3 = true) → (zs.Pairwise fun x y => lexK x.k3 y.k3 = true) → (∀ y, y ∈ ys ↔ y ∈ zs) → ys = zs := by
    intro ys
    induction ys with
    | nil =>
      intro zs _ _ h
      cases zs with
      | nil => rfl
      | cons z zs => exact absurd ((h z).mpr (List.mem_cons_self ..)) (by simp)
    | cons y ys ih =>
      intro zs hy hz h
      cases zs with
      | nil => exact absurd ((h y).mp (List.mem_cons_self ..)) (by simp)
      | cons z zs =>
        obtain ⟨y1, y2⟩ := List.pairwise_cons.mp hy
        obtain ⟨z1, z2⟩ := List.pairwise_cons.mp hz
        have e : y = z := by
          rcases List.mem_cons.mp ((h y).mp (List.mem_cons_self ..)) with e | a
          · exact e
          · rcases List.mem_cons.mp ((h z).mpr (List.mem_cons_self ..)) with e | b
            · exact e.symm
            · have t := lexK_trans (z1 y a) (y1 z b)
              rw [irr] at t
              cases t
        subst e
        have h' : ∀ w, w ∈ ys ↔ w ∈ zs := fun w => by
          constructor
          · intro hw
            rcases List.mem_cons.mp ((h w).mp (List.mem_cons_of_mem _ hw)) with e | q
            · rw [e] at hw
              have t := y1 y hw
              rw [irr] at t
              cases t
            · exact q
          · intro hw
            rcases List.mem_cons.mp ((h w).mpr (List.mem_cons_of_mem _ hw)) with e | q
            · rw [e] at hw
              have t := z1 y hw
              rw [irr] at t
              cases t
            · exact q
        rw [ih y2 z2 h']
  exact key h1.asc h2.asc fun y => ⟨sub h1 h2 y, sub h2 h1 y⟩
/-- at each v of vs the arrow of xs, a tuple -/
def ArS (H : Hp) (vs : List V) (xs : List Arw) : Prop := Paired (fun v x => ∃ q, v = V.ref q ∧ H q = some (.tup x.vals)) vs xs
theorem ArS.same {H H' : Hp} {vs : List V} {xs : List Arw} (h : ArS H vs xs) (e : Same H H') : ArS H' vs xs := Paired.mapP h fun v x ⟨q, ev, hq⟩ => ⟨q, ev, e _ _ hq⟩
theorem ArTs.s {K : PySem.W.Frag} {p : Addr} {H : Hp} {vs : List V} {xs : List Arw} (h : ArTs K p H vs xs) : ArS H vs xs := Paired.mapP h fun v x ⟨q, ev, _, hq⟩ => ⟨q, ev, hq⟩
theorem ArS.get {H : Hp} : ∀ {vs : List V} {xs : List Arw} {i : Nat} {v : V}, ArS H vs xs → vs[i]? = some v → ∃ q x, v = .ref q ∧ xs[i]? = some x ∧ H q = some (.tup x.vals)
  | _, _, _, _, .nil, h => by simp at h
  | _, _, 0, v, .cons (b := x) ⟨q, ev, hq⟩ r, h => by
    have e := Option.some.inj h
    exact ⟨q, x, by rw [← e]; exact ev, rfl, hq⟩
  | _, _, i + 1, v, .cons a r, h => ArS.get (i := i) r h
theorem ArS.snoc {H : Hp} {vs : List V} {xs : List Arw} {q : Addr} {x : Arw} (h : ArS H vs xs) (hq : H q = some (.tup x.vals)) : ArS H (vs ++ [.ref q]) (xs ++ [x]) := by
  induction h with
  | nil => exact .cons ⟨q, rfl, hq⟩ .nil
  | cons a r ih => exact .cons a ih
theorem paired_perm {α β : Type} {R : α → β → Prop} {as bs : List α} (p : as.Perm bs) : ∀ {cs : List β}, Paired R bs cs → ∃ ds, Paired R as ds ∧ ds.Perm cs := by
  induction p with
  | nil => exact fun h => ⟨_, h, List.Perm.refl _⟩
  | cons x _ ih =>
    intro cs h
    cases h with
    | cons a r =>
      obtain ⟨ds, h1, h2⟩ := ih r
      exact ⟨_ :: ds, .cons a h1, h2.cons _⟩
  | swap x y l =>
    intro cs h
    cases h with
    | cons a r =>
      cases r with
      | cons b r => exact ⟨_, .cons b (.cons a r), List.Perm.swap ..⟩
  | trans _ _ i1 i2 =>
    intro cs h
    obtain ⟨ds, h1, h2⟩ := i2 h
    obtain ⟨es, h3, h4⟩ := i1 h1
    exact ⟨es, h3, h4.trans h2⟩
theorem paired_pairwise {α β : Type} {R : α → β → Prop} {S : α → α → Prop} {S' : β → β → Prop} (hs : ∀ a a' b b', R a b → R a' b' → S a a' → S' b b') : ∀ {as : List α} {bs : List β}, Paired R as bs → as.Pairwise S → bs.Pairwise S'
  | _, _, .nil, _ => .nil
  | _, _, .cons a r, h => by
    obtain ⟨h1, h2⟩ := List.pairwise_cons.mp h
    refine List.pairwise_cons.mpr ⟨fun b hb => ?_, paired_pairwise hs r h2⟩
    have mem : ∀ {as : List α} {bs : List β}, Paired R as bs → ∀ b ∈ bs, ∃ a ∈ as, R a b := by
      intro as bs p
      induction p with
      | nil => exact fun b hb => (by cases hb)
      | cons x _ ih =>
        intro b hb
        rcases List.mem_cons.mp hb with rfl | hb
        · exact ⟨_, List.mem_cons_self .., x⟩
        · obtain ⟨a, ha, r⟩ := ih b hb
          exact ⟨a, List.mem_cons_of_mem _ ha, r⟩
    obtain ⟨a', ha', r'⟩ := mem r b hb
    exact hs _ _ _ _ a r' (h1 a' ha')
theorem kpi_enumS (K : PySem.W.Frag) {X : Cx} {e : Expr} {te : TE} {p pos tpos kpos : Pos} {j : Nat} {cpos : Pos} {elts : List Expr} {kk : Nat} (hg : Gl X "enumerate") (hm : X.mg "enumerate" = none) (he : PE X e te) (hs : starEach [e] X.env = [(false, eval e X.env)] := by rfl) (h : X.K = K := by rfl) :
    PI X (.Tuple elts kk tpos) (.Call (.Name "enumerate" p) [e] [⟨some "start", .Constant (.int 1) j cpos, kpos⟩] pos) (iEnumS K te) := by
  subst h
  exact pi_enumS hg hm he hs
/-! ### dicts -/
theorem kpi_enumST (K : PySem.W.Frag) {X : Cx} {e : Expr} {te : TE} {p pos tpos kpos : Pos} {j : Nat} {cpos : Pos} {elts : List Expr} {kk : Nat} (hg : Gl X "enumerate") (hm : X.mg "enumerate" = none) (he : PE X e te) (hs : starEach [e] X.env = [(false, eval e X.env)] := by rfl) (h : X.K = K := by rfl) :
    PI X (.Tuple elts kk tpos) (.Call (.Name "enumerate" p) [e] [⟨some "start", .Constant (.int 1) j cpos, kpos⟩] pos) (iEnumST K te) := by
  subst h
  exact pi_enumST hg hm he hs
/-! ### dicts -/
theorem putK_keys {κ : Type} [DecidableEq κ] (kvs : List (κ × V)) (k : κ) (v : V) : (putK kvs k v).map (·.1) = if k ∈ kvs.map (·.1) then kvs.map (·.1) else kvs.map (·.1) ++ [k] := by
  have e : (kvs.any fun kv => decide (kv.1 = k)) = decide (k ∈ kvs.map (·.1)) := by
    rw [Bool.eq_iff_iff, decide_eq_true_eq, List.any_eq_true]
    simp only [decide_eq_true_eq, List.mem_map]
  unfold putK
  rw [e]
  by_cases h : k ∈ kvs.map (·.1)
  · rw [if_pos (decide_eq_true h), if_pos h, List.map_map]
    refine List.map_congr_left fun p _ => ?_
    show (if p.1 = k then (p.1, v) else p).1 = p.1
    split <;> rfl
  · rw [if_neg (by rw [decide_eq_false h]; decide), if_neg h, List.map_append]
    rfl
theorem putK_nodup {κ : Type} [DecidableEq κ] {kvs : List (κ × V)} {k : κ} {v : V} (h : (kvs.map (·.1)).Nodup) : ((putK kvs k v).map (·.1)).Nodup := by
  rw [putK_keys]
  split
  · exact h
  · rename_i n
    rw [List.nodup_append]
    exact ⟨h, by simp, fun a ha b hb e => n (by rw [List.mem_singleton.mp hb] at e; rw [← e]; exact ha)⟩
theorem putK_memk {κ : Type} [DecidableEq κ] {kvs : List (κ × V)} {k : κ} {v : V} {p : κ × V} (h : p ∈ putK kvs k v) : p.1 = k ∨ ∃ q ∈ kvs, q.1 = p.1 := by
  have hm : p.1 ∈ (putK kvs k v).map (·.1) := List.mem_map.mpr ⟨p, h, rfl⟩
  rw [putK_keys] at hm
  split at hm
  · obtain ⟨q, hq, e⟩ := List.mem_map.mp hm
    exact .inr ⟨q, hq, e⟩
  · rcases List.mem_append.mp hm with hm | hm
    · obtain ⟨q, hq, e⟩ := List.mem_map.mp hm
      exact .inr ⟨q, hq, e⟩
    · exact .inl (List.mem_singleton.mp hm)
theorem valV_mem {κ : Type} [DecidableEq κ] {kvs : List (κ × V)} (h : (kvs.map (·.1)).Nodup) {p : κ × V} (hp : p ∈ kvs) : valV kvs p.1 = some p.2 := by
  unfold valV
  induction kvs with
  | nil => cases hp
  | cons q kvs ih =>
    rw [List.map_cons] at h
    obtain ⟨h1, h2⟩ := List.nodup_cons.mp h
    rcases List.mem_cons.mp hp with rfl | hp
    · rw [List.find?_cons_of_pos (by simp)]
      rfl
    · have ne : ¬ q.1 = p.1 := fun e => h1 (by rw [e]; exact List.mem_map.mpr ⟨p, hp, rfl⟩)
      rw [List.find?_cons_of_neg (by simpa using ne)]
      exact ih h2 hp
/-- the keys of the value at v, as the heap has it -/
def unkV : V → Ky
  | .int i => .inl i
  | .str z => .inr z
  | _ => .inl 0
def keysAt (H : Hp) (v : V) : List Ky := match v with
  | .ref q => match H q with
    | some (.tup vs) => vs.map unkV
    | _ => []
  | _ => []
theorem keysAt_ar {H : Hp} {q : Addr} {x : Arw} (h : H q = some (.tup x.vals)) : keysAt H (.ref q) = x.ks := by
  unfold keysAt
  simp only [h]
  rfl
theorem ks_vals (x : Arw) : x.ks.map kV = x.vals := rfl
/-! ### promises of the machine's helpers -/
def spCheckArrows (K : PySem.W.Frag) : Sp := fun vs H Q _ => ∃ (a : Addr) (us : List V) (xs : List Arw), vs = [.ref a] ∧ SqE K H a us ∧ ArS H us xs ∧ (∀ x ∈ xs, x.Ok) ∧ xs.length ≤ 400 ∧ ∀ H', Same H H' → Q .non H'
def spCheckNames (K : PySem.W.Frag) : Sp := fun vs H Q _ => ∃ (a : Addr) (ns : List PySem.Str), vs = [.ref a] ∧ SqE K H a (ns.map V.str) ∧ (∀ s ∈ ns, Nm s) ∧ Q .non H
def spOnce (K : PySem.W.Frag) : Sp := fun vs H Q _ => ∃ (a : Addr) (ns : List PySem.Str), vs = [.ref a] ∧ SqE K H a (ns.map V.str) ∧ ns.length ≤ 4000 ∧
  ∀ (q : Addr) (os : List PySem.Str) (H' : Hp), H q = none → FzT H' q (os.map V.str) → Asc os → (∀ k, k ∈ os ↔ k ∈ ns) → os.length ≤ ns.length → Same H H' → Q (.ref q) H'
def spStates (K : PySem.W.Frag) : Sp := fun vs H Q _ => ∃ (t a b : Addr) (us : List V) (xs : List Arw) (ss es : List PySem.Str), vs = [.ref t, .ref a, .ref b] ∧ H t = some (.tup us) ∧ ArS H us xs ∧ SqE K H a (ss.map V.str) ∧ SqE K H b (es.map V.str) ∧
  xs.length ≤ 500 ∧ ss.length ≤ 1000 ∧ es.length ≤ 1000 ∧
  ∀ (q : Addr) (os : List PySem.Str) (H' : Hp), H q = none → FzT H' q (os.map V.str) → Asc os → (∀ k, k ∈ os ↔ (k ∈ ss ∨ k ∈ es ∨ ∃ x ∈ xs, k = x.s ∨ k = x.t)) → Same H H' → Q (.ref q) H'
def spCheapest (K : PySem.W.Frag) : Sp := fun vs H Q _ => ∃ (a : Addr) (us : List V) (xs : List Arw), vs = [.ref a] ∧ SqE K H a us ∧ ArS H us xs ∧ xs.length ≤ 1000 ∧
  ∀ (q : Addr) (ws : List V) (ys : List Arw) (H' : Hp), H q = none → H' q = some (.tup ws) → ArS H' ws ys → CheapOf xs ys → Same H H' → Q (.ref q) H'
theorem nm_len {s : PySem.Str} (h : Nm s) : s.length ≤ 100000 := Nat.le_trans h.2.1 (by decide)
theorem lt_len {s : PySem.Str} (h : Lt s) : s.length ≤ 100000 := by rw [h.1]; decide
end Bz

namespace Bz
open PySem PySem.Spec PyProof.Rows L2
/-! ### own errors: made, raised, caught -/
def spPass : Sp := fun vs H Q _ => ∃ a : Addr, vs = [.ref a] ∧ Q .non H
section
variable {X : Cx}
/-- the end of C() with an __init__ that does nothing: the exception is let go -/
theorem mk_endP {pins : List (Addr × Obj)} {σ : L2.St} {H1 : Hp} {hp hp2 h2 : Heap} {g1 g2 : Array GenState} {d1 d2 : Drawn} {t1 t2 : Nat} {os1 os2 : OsState} {a C : Addr} (I1 : Inv X pins σ H1 ⟨hp, g1, d1, t1, os1⟩)
    (ha : hp.objs.size ≤ a) (k : ∀ b o, hp.get? b = some o → hp2.get? b = some o) (un : Un (frs X.stack) [] (upd H1 a (exo a C none)) (upd H1 a (exo a C none)) hp2 h2) (hok : HOk X.prog X.w (upd H1 a (exo a C none)) h2) (ho : os2 = os1) (hb : AllBare g2) :
    ∃ (t0 : Addr) (G : Heap), Inv X pins σ H1 ⟨G, g2, d2, t2, os2⟩ ∧ (∀ b o, G.get? b = some o → h2.get? b = some o) ∧ G.get? a = none ∧
      h2.get? a = some ({ cls := .ref C, dict := none, data := .fields #[.ref t0, .none, .none, .none, .bool false, .none] } : Obj) ∧ H1 a = none := by
  obtain ⟨t0, hoe⟩ := exo_at hok upd_same
  have hn : H1 a = none := I1.hok.fresh ha
  obtain ⟨G, g1', g2'⟩ := restrict h2 fun b => decide (b ≠ a)
  have gk : ∀ b, b ≠ a → G.get? b = h2.get? b := fun b hb => g1' b (decide_eq_true hb)
  have ge : G.get? a = none := g2' a (by simp)
  have nha : ∀ {b : Addr} {o : Obj}, hp.get? b = some o → b ≠ a := fun {b o} z => Nat.ne_of_lt (Nat.lt_of_lt_of_le (Heap.lt_size z) ha)
  have up : ∀ {b : Addr}, b ≠ a → H1 b = none → upd H1 a (exo a C none) b = none := fun {b} hb n => by rw [upd_ne hb]; exact n
  have U : Un (frs X.stack) [] H1 H1 hp G := {
    keep := fun b o z n hf hx => by
      rw [gk b (nha z)]
      exact un.keep b o (k b o z) (up (nha z) n) hf hx
    slot := fun b o z n hf hx => by
      rw [gk b (nha z)]
      exact un.slot b o (k b o z) (up (nha z) n) hf hx
    free := fun b o z n hx => n
    there := fun b o z hx => by
      rw [gk b (nha z)]
      exact un.there b o (k b o z) hx
    tups := fun b xs z => z
    frzs := fun b o v z => z
    tbls := fun b ps z => ⟨#[], by rw [z]; simp⟩ }
  have hok3 : HOk X.prog X.w H1 G := fun b o z => by
    have hba : b ≠ a := ne_of_none z hn
    have z' : upd H1 a (exo a C none) b = some o := by rw [upd_ne hba]; exact z
    have noa : ∀ {c : Addr}, upd H1 a (exo a C none) c = some (.own b) → c ≠ a := fun {c} hc e => by
      rw [e, upd_same] at hc
      exact exo_own (Option.some.inj hc)
    exact (hok b o z').stay (fun c v hc y => by
        have hca : c ≠ a := by
          rcases hc with hc | hc
          · rw [hc]
            exact hba
          · exact noa hc
        rw [gk c hca]
        exact y)
      (fun c hc => by
        have q := noa hc
        rw [upd_ne q] at hc
        exact hc) (fun c xs hc => by
        have q : c ≠ a := fun e => by
          rw [e, upd_same] at hc
          exact exo_tup (Option.some.inj hc)
        rw [upd_ne q] at hc
        exact hc)
  have J : Inv X pins σ H1 ⟨G, g2, d2, t2, os2⟩ := I1.call' (ch := []) ho U hok3 hb (fun b z => absurd z (by simp))
  refine ⟨t0, G, J, fun b o z => ?_, ge, hoe, hn⟩
  by_cases hba : b = a
  · rw [hba, ge] at z
    cases z
  · exact (gk b hba).symm.trans z
variable {k : Nat} {x : PySem.Str} {p pos : Pos}
theorem pmk_pass {CX : CXT} {C fI : Addr} {fd : FuncData} (T : OexC X.K C) (iC : PySem.W.findIn X.K (.ref C) "__init__" = some (some (.ref fI))) (tI : PySem.W.typeIn X.K (.ref fI) = some (.type "function"))
    (F1 : FnOk X.prog X.w X.K X.mg X.base CX k fI fd ["self"] spPass) (hr : Room (k + 1) X.A) (hb : Binds X.K fd ["self"] []) (hx : Passes CX X (fun _ _ _ => False)) (hg : Gl X x) (hm : X.mg x = some (.ref C))
    (hdb : (x == ("__debug__" : PySem.Str)) = false := by decide) :
    PMk X (.Call (.Name x p) [] [] pos) (fun _ H Q => Q (.ref C) none H) := by
  intro pins s σ H Q I h
  obtain ⟨nm, q, N, bs, bm, sn, sub, ab, col, dd, k0, k1, k2, k3, k5, hC, hbm⟩ := T.cls
  refine wpAny_Call_Name_kw (ld_glob I hg hm ?_ hdb)
  refine PySem.W.callWith_K0 I.kIn T.kC ?_
  show wpAny _ _ (call (.ref C) []) _ _ _
  obtain ⟨hp, g, dr, tk, os⟩ := s
  have hsz : hp.objs.size ≤ hp.objs.size + 1 := Nat.le_succ _
  have hn : H (hp.objs.size + 1) = none := I.hok.fresh hsz
  have kk : ∀ b o, hp.get? b = some o → ((hp.push (PySem.W.kdv_tup [])).push (PySem.HandSPX.excO C hp.objs.size)).get? b = some o := fun b o e => Heap.get?_push_of_some _ (Heap.get?_push_of_some _ e)
  have hget : ((hp.push (PySem.W.kdv_tup [])).push (PySem.HandSPX.excO C hp.objs.size)).get? (hp.objs.size + 1) = some (PySem.HandSPX.excO C hp.objs.size) := by heap_get
  have I2 : Inv X pins σ (upd H (hp.objs.size + 1) (exo (hp.objs.size + 1) C none)) ⟨(hp.push (PySem.W.kdv_tup [])).push (PySem.HandSPX.excO C hp.objs.size), g, dr, tk, os⟩ :=
    I.laid (t' := tk) (a := hp.objs.size + 1) (o := exo (hp.objs.size + 1) C none) (h' := (hp.push (PySem.W.kdv_tup [])).push (PySem.HandSPX.excO C hp.objs.size)) kk hsz (exo_ok hget)
  have r2 : Vals [V.ref (hp.objs.size + 1)] [Value.ref (hp.objs.size + 1)] := .cons rfl .nil
  have hus : ([] : List Value).length ≤ sizeLine := Nat.zero_le _
  have hq : spPass [V.ref (hp.objs.size + 1)] (upd H (hp.objs.size + 1) (exo (hp.objs.size + 1) C none)) (fun v H2 => v = .non ∧ H2 = upd H (hp.objs.size + 1) (exo (hp.objs.size + 1) C none)) (fun _ _ _ => False) := ⟨_, rfl, rfl, rfl⟩
  have hl : ([Value.ref (hp.objs.size + 1)] : List Value).length = (["self"] : List PySem.Str).length := rfl
  have hbb := hb _ [Value.ref (hp.objs.size + 1)] I2.kIn (by rw [List.append_nil]; exact hl)
  rw [List.append_nil] at hbb
  refine wpAny_call (PySem.HandSPX.call_own F.excBase_ValueError (fun Y => PySem.HandSPX.refsVE_contains Y bm hbm) (I.kIn _ _ hC) (PySem.W.looks_findIn I.kIn iC) (fun self => PySem.W.bind_fn I.kIn self tI) hus
    (codeAny_mono (F1.run _ X.stack _ _ ⟨[Value.ref (hp.objs.size + 1)], []⟩ [Value.ref (hp.objs.size + 1)] [V.ref (hp.objs.size + 1)] (fun v H2 => v = .non ∧ H2 = upd H (hp.objs.size + 1) (exo (hp.objs.size + 1) C none)) (fun _ _ _ => False) (hr.make C [] []) (I2.env0.make C [] []) hbb r2 hq) fun r s' hq' => ?_))
  cases r with
  | error er => exact hx pins σ _ _ er s' I2 hq'
  | ok fl =>
    cases fl with
    | ret u =>
      obtain ⟨v, H2, os2, bare2, un2, hok2, rv, ev, eH⟩ := hq'
      subst ev
      subst eH
      obtain ⟨h2, g2, d2, t2, os'⟩ := s'
      obtain ⟨t0, G, J, kG, ge, hoe, na⟩ := mk_endP (d2 := d2) (t2 := t2) I hsz kk un2 hok2 os2 bare2
      exact ⟨rv, ⟨_, _, _, ⟨G, g2, d2, t2, os'⟩, _, .ref C, none, rfl, J, kG, ge, hoe, ⟨rfl, rfl⟩, rfl, rfl, na, rfl, bare2, raises_own T.exC T.tyC, h⟩⟩
    | next => exact False.elim hq'
    | brk => exact False.elim hq'
    | cont => exact False.elim hq'
end
/-- an error class over the package's own base, whose __init__ does nothing -/
structure Err0 (K : PySem.W.Frag) (mg : PySem.Str → Option Value) (x qual : PySem.Str) (C : Addr) (st : Stmt) : Prop where
  g : mg x = some (.ref C)
  o : OexC K C
  hd : PySem.W.hasDictIn K C = true
  ss : PySem.W.subIn K (.ref C) (.ref C) = some true
  ex : ∃ fI fd, PySem.W.findIn K (.ref C) "__init__" = some (some (.ref fI)) ∧ PySem.W.typeIn K (.ref fI) = some (.type "function") ∧ Fun K "__init__" qual st fI fd ∧ Binds K fd ["self"] []
/-- .. whose __init__ keeps its one argument -/
structure Err1 (K : PySem.W.Frag) (mg : PySem.Str → Option Value) (x qual f : PySem.Str) (C : Addr) (st : Stmt) : Prop where
  g : mg x = some (.ref C)
  o : OexC K C
  hd : PySem.W.hasDictIn K C = true
  ss : PySem.W.subIn K (.ref C) (.ref C) = some true
  no : PySem.W.findIn K (.ref C) f = some none
  ga : PySem.W.findIn K (.ref C) "__getattribute__" = some (some (.builtin "BaseException.__getattribute__"))
  gg : PySem.W.findIn K (.ref C) "__getattr__" = some none
  ex : ∃ fI fd, PySem.W.findIn K (.ref C) "__init__" = some (some (.ref fI)) ∧ PySem.W.typeIn K (.ref fI) = some (.type "function") ∧ Fun K "__init__" qual st fI fd ∧ Binds K fd ["self", f] []
theorem Err1.xf {K : PySem.W.Frag} {mg : PySem.Str → Option Value} {x qual f : PySem.Str} {C : Addr} {st : Stmt} (T : Err1 K mg x qual f C st) : XfC K C := ⟨T.ga, T.gg, T.o.exC, T.hd⟩
theorem Err0.exm {K : PySem.W.Frag} {mg : PySem.Str → Option Value} {x qual : PySem.Str} {C : Addr} {st : Stmt} (T : Err0 K mg x qual C st) : PySem.W.exmOne K (.ref C) (.ref C) = some true := PySem.W.exm_ref T.o.exC T.hd T.o.tyC T.ss
theorem Err1.exm {K : PySem.W.Frag} {mg : PySem.Str → Option Value} {x qual f : PySem.Str} {C : Addr} {st : Stmt} (T : Err1 K mg x qual f C st) : PySem.W.exmOne K (.ref C) (.ref C) = some true := PySem.W.exm_ref T.o.exC T.hd T.o.tyC T.ss
theorem passF {X : Cx} : Passes (L2.CX X.prog X.w) X (fun _ _ _ => False) := fun _ _ _ _ _ _ _ h => by
  obtain ⟨_, _, _, _, _, _, _, _, _, _, _, _, z⟩ := h
  exact z.elim
theorem pass00 {X : Cx} {E : XK} : Passes CX0 X E := fun _ _ _ _ _ _ _ h => h.elim
section
variable {X : Cx} {x qual f : PySem.Str} {C : Addr} {st : Stmt} {p pos : Pos} {j : Nat}
theorem pmk_e0 {p3 : Pos} (T : Err0 X.K X.mg x qual C st) (S : FnScope ["self"] ["self"] (defScope st)) (hr : Room j X.A) (hg : Gl X x := by rfl) (hb : defBody st = [.Pass p3] := by rfl) (hj : 2 ≤ j := by decide)
    (hdb : (x == ("__debug__" : PySem.Str)) = false := by decide) : PMk X (.Call (.Name x p) [] [] pos) (fun _ H Q => Q (.ref C) none H) := by
  obtain ⟨fI, fd, iC, tI, F, b⟩ := T.ex
  have F1 : FnOk X.prog X.w X.K X.mg X.base CX0 1 fI fd ["self"] spPass := F.ok S (fun vs H Q E ⟨a, h, _⟩ => by rw [h]; rfl) fun cdv A outer s H vs Q E hr h => by
    obtain ⟨a, rfl, q⟩ := h
    refine ⟨_, by rw [hb]; exact pss_one ps_pass, q⟩
  exact pmk_pass T.o iC tI F1 (hr.mono hj) b pass00 hg T.g hdb
/-- self.f = f -/
def spFld (K : PySem.W.Frag) (f : PySem.Str) : Sp := fun vs H Q _ => ∃ (a C : Addr) (v : V), vs = [.ref a, v] ∧ OexC K C ∧ PySem.W.findIn K (.ref C) f = some none ∧ H a = some (exo a C none) ∧
  ∀ dx, H dx = none → dx ≠ a → Q .non (upd (upd H dx (exd dx [(f, v)])) a (exo a C (some dx)))
def tMkE (C : Addr) (f : PySem.Str) (ta : TA) : L2.St → Hp → XK → Prop := fun σ H Q => ta σ H fun vs H1 => ∃ v, vs = [v] ∧ ∀ d, H1 d = none → Q (.ref C) (some d) (upd H1 d (.xd [(f, v)]))
theorem pa_weak {es : List Expr} {t : TA} (h : PA X es t) : PA X es (fun σ H Q' => ∃ Q, t σ H Q ∧ ∀ vs H1, Q vs H1 → Q' vs H1) :=
  ⟨fun pos pins s σ H Q' I ⟨Q, hq, k⟩ => thn (h.run pos pins s σ H Q I hq) fun us s' ⟨vs, H1, I1, r, q⟩ => ⟨vs, H1, I1, r, k _ _ q⟩⟩
theorem pmk_e1 {e : Expr} {ta : TA} {p0 p1 p2 p3 : Pos} (T : Err1 X.K X.mg x qual f C st) (S : FnScope ["self", f] ["self", f] (defScope st)) (hr : Room j X.A) (ha : PA X [e] ta) (hg : Gl X x := by rfl)
    (hb : defBody st = [.Assign [.Attribute (.Name "self" p0) f p1] (.Name f p2) p3] := by rfl) (hj : 2 ≤ j := by decide)
    (f1 : (f == ("__debug__" : PySem.Str)) = false := by decide) (f2 : (f == ("__classdict__" : PySem.Str)) = false := by decide)
    (hdb : (x == ("__debug__" : PySem.Str)) = false := by decide) (he : starEach [e] X.env = (false, eval e X.env) :: starEach [] X.env := by rfl) (hpl : (backTo pos (starEach [] X.env)).any (·.1) = false := by rfl)
    (hsw : ∀ (A : Around) (P : Program) (env : Env), swapsWith (.Name f p2) (some (.Attribute (.Name "self" p0) f p1)) p3.line env = pure false := by intros; rfl) :
    PMk X (.Call (.Name x p) [e] [] pos) (tMkE C f ta) := by
  obtain ⟨fI, fd, iC, tI, F, b⟩ := T.ex
  have F1 : FnOk X.prog X.w X.K X.mg X.base CX0 1 fI fd ["self", f] (spFld X.K f) := F.ok S (fun vs H Q E ⟨a, C, v, h, _⟩ => by rw [h]; rfl) fun cdv A outer s H vs Q E hr h => by
    obtain ⟨a, C, v, rfl, o, n, ea, q⟩ := h
    have h0 : PE (cxOf CX0 X.prog X.w X.K X.mg X.base ["self", f] qual (defScope st) fI cdv A outer s H E).nox (.Name "self" p0) (tVar 0) := pe_var (i := 0) rfl ((S.par "self" (List.Mem.head _)).elim (fun z => .inl z) (fun z => .inr (.inl z)))
    have h1 : PE (cxOf CX0 X.prog X.w X.K X.mg X.base ["self", f] qual (defScope st) fI cdv A outer s H E).nox (.Name f p2) (tVar 1) := pe_var (i := 1) rfl ((S.par f (List.mem_cons_of_mem _ (List.Mem.head _))).elim (fun z => .inl z) (fun z => .inr (.inl z))) f1 f2
    refine ⟨_, by rw [hb]; exact pss_one (ps_ost h0 h1 (hsw A X.prog _)), ?_⟩
    exact ⟨_, rfl, _, rfl, a, C, rfl, o, n, .inl ⟨ea, fun dx n1 n2 => q dx n1 n2⟩⟩
  intro pins s σ H Q I h
  refine pmk_oex (dvs := []) (ds := []) T.o iC tI F1 (hr.mono hj) b .nil pass00 hg T.g (pa_weak ha) hdb he hpl pins s σ H Q I ⟨_, h, fun vs H1 ⟨v, ev, k⟩ => ?_⟩
  subst ev
  refine ⟨by simp, fun a na => ⟨a, C, v, rfl, T.o, T.no, upd_same, fun dx nx ne => ⟨rfl, dx, _, upd_same, (upd_ne ne).trans upd_same, (upd_ne ne).symm.trans nx, ?_⟩⟩⟩
  have nd : H1 dx = none := (upd_ne ne).symm.trans nx
  have e : upd (del (upd (upd (upd H1 a (exo a C none)) dx (exd dx [(f, v)])) a (exo a C (some dx))) a) dx (.xd [(f, v)]) = upd H1 dx (.xd [(f, v)]) := by
    funext b
    by_cases h1 : b = dx
    · rw [h1, upd_same, upd_same]
    · rw [upd_ne h1, upd_ne h1]
      by_cases h2 : b = a
      · rw [h2, del_same, na]
      · rw [del_ne h2, upd_ne h2, upd_ne h1, upd_ne h2]
  rw [e]
  exact k dx nd
end
end Bz

namespace Bz
open PySem PySem.Spec PyProof.Rows L2
/-! ### own classes: made, their properties read -/
structure InitAt (K : PySem.W.Frag) (C : Addr) (qual : PySem.Str) (st : Stmt) (ps : List PySem.Str) : Prop where
  ex : ∃ f fd, Mk K C f ∧ Fun K "__init__" qual st f fd ∧ Binds K fd ps []
structure Makes (P : Program) (w : World) (K : PySem.W.Frag) (mg : PySem.Str → Option Value) (base : Heap) (C : Addr) (k : Nat) (ps : List PySem.Str) (sp : Sp) : Prop where
  ex : ∃ f fd, Mk K C f ∧ FnOk P w K mg base CX0 k f fd ps sp ∧ Binds K fd ps []
section
variable {P : Program} {w : World} {K : PySem.W.Frag} {mg : PySem.Str → Option Value} {base : Heap} {k : Nat} {qual : PySem.Str} {st : Stmt} {ps N : List PySem.Str} {sp : Sp} {C : Addr}
theorem makes0 (D : InitAt K C qual st ps) (S : FnScope N ps (defScope st)) (len : ∀ vs H Q E, sp vs H Q E → vs.length = ps.length)
    (hbody : ∀ (f : Addr) (cdv : Value) (A : Around) (outer : List Env) (s : Shared) (H : Hp) (vs : List V) (Q : VK) (E : XK), Room k (A.deeper (envOfC qual (defScope st) s.heap.objs.size f cdv)) → sp vs H Q E →
      ∃ t, PSs (cxOf CX0 P w K mg base N qual (defScope st) f cdv A outer s H E).nox (defBody st) t ∧ t { nx := fun _ H' => Q .non H', rt := Q } (start N vs) H) : Makes P w K mg base C (k + 1) ps sp := by
  obtain ⟨f, fd, M, F, b⟩ := D.ex
  exact ⟨f, fd, M, F.ok S len (hbody f), b⟩
end
section
variable {X : Cx} {k : Nat} {x : PySem.Str} {ps : List PySem.Str} {sp : Sp} {e : Expr} {es : List Expr} {p pos : Pos} {t : TA} {C : Addr}
theorem pe_mk {j : Nat} (M : Makes X.prog X.w X.K X.mg X.base C k ps sp) (hr : Room j X.A) (hm : X.mg x = some (.ref C)) (ha : PA X (e :: es) t) (hj : k + 1 ≤ j := by decide) (hg : Gl X x := by rfl)
    (hdb : (x == ("__debug__" : PySem.Str)) = false := by decide) (he : starEach (e :: es) X.env = (false, eval e X.env) :: starEach es X.env := by rfl) (hpl : (backTo pos (starEach es X.env)).any (·.1) = false := by rfl) :
    PE X (.Call (.Name x p) (e :: es) [] pos) (tMake C sp [] E0 t) := by
  obtain ⟨f, fd, M, F, b⟩ := M.ex
  exact pe_make M F (hr.mono hj) hg hm b .nil pass0 ha hdb he hpl
end
structure PropAt (K : PySem.W.Frag) (C : Addr) (f qual : PySem.Str) (st : Stmt) : Prop where
  ex : ∃ p g fd, PropOf K C f p g ∧ Fun K f qual st g fd ∧ Binds K fd ["self"] []
/-- e.f, a property that gives the attribute h -/
def tPr (C : Addr) (h : PySem.Str) (te : TE) : TE := tProp C (getSp C h) [] E0 te
theorem pe_pr {X : Cx} {j : Nat} {C : Addr} {f h qual : PySem.Str} {st : Stmt} {N : List PySem.Str} {e : Expr} {te : TE} {pos p1 p2 p3 : Pos} (he : PE X e te) (hr : Room j X.A) (c : Cls X.K C) (hp : PropAt X.K C f qual st) (n : NoAttr X.K C h) (S : FnScope N ["self"] (defScope st))
    (hN : N[0]? = some ("self" : PySem.Str) := by rfl) (hb : defBody st = [.Return (some (.Attribute (.Name "self" p1) h p2)) p3] := by rfl) (hj : 2 ≤ j := by decide) (hab : attributeBase e f X.env (eval e X.env) = eval e X.env := by rfl) :
    PE X (.Attribute e f pos) (tPr C h te) := by
  obtain ⟨p, g, fd, P, F, b⟩ := hp.ex
  obtain ⟨oc, od, kV, doc, pm, an, cdv, ct, osl, rfl, lk, hcd⟩ := F.ex
  have G : FnOk X.prog X.w X.K X.mg X.base CX0 1 g (PySem.W.fnOf f qual (defArgs st) (defBody st) (defScope st) .none kV doc pm an cdv ct) ["self"] (getSp C h) := fn_getter lk hcd S hN hb c n
  exact pe_prop (dvs := []) (E := E0) (pos := pos) he c P G (hr.mono hj) b .nil (fun _ _ _ _ _ _ _ z => z.elim) hab
/-- what stands in a machine -/
structure MachV where
  ars : List Arw
  sts : List PySem.Str
  ens : List PySem.Str
  sta : List PySem.Str
  lets : List PySem.Str
/-- .. made of xs, ss, es -/
structure MOf (M : MachV) (xs : List Arw) (ss es : List PySem.Str) : Prop where
  ars : CheapOf xs M.ars
  sts : Asc M.sts ∧ ∀ k, k ∈ M.sts ↔ k ∈ ss
  ens : Asc M.ens ∧ ∀ k, k ∈ M.ens ↔ k ∈ es
  sta : Asc M.sta ∧ ∀ k, k ∈ M.sta ↔ (k ∈ ss ∨ k ∈ es ∨ ∃ x ∈ M.ars, k = x.s ∨ k = x.t)
  lets : Asc M.lets ∧ ∀ k, k ∈ M.lets ↔ ∃ x ∈ M.ars, k = x.l
def mfs (t1 t2 t3 t4 t5 : Addr) : List (PySem.Str × V) := [("held_arrows", .ref t1), ("held_starts", .ref t2), ("held_ends", .ref t3), ("held_states", .ref t4), ("held_letters", .ref t5)]
/-- the machine M at m -/
structure MachAt (C : Addr) (H : Hp) (m dx t1 t2 t3 t4 t5 : Addr) (ws : List V) (M : MachV) : Prop where
  ins : H m = some (.ins C dx (mfs t1 t2 t3 t4 t5))
  a1 : H t1 = some (.tup ws)
  as : ArS H ws M.ars
  a2 : FzT H t2 (M.sts.map V.str)
  a3 : FzT H t3 (M.ens.map V.str)
  a4 : FzT H t4 (M.sta.map V.str)
  a5 : FzT H t5 (M.lets.map V.str)
def IsMach (C : Addr) (H : Hp) (m : Addr) (M : MachV) : Prop := ∃ dx t1 t2 t3 t4 t5 ws, MachAt C H m dx t1 t2 t3 t4 t5 ws M
theorem IsMach.same {C : Addr} {H H' : Hp} {m : Addr} {M : MachV} (h : IsMach C H m M) (e : Same H H') : IsMach C H' m M := by
  obtain ⟨dx, t1, t2, t3, t4, t5, ws, h⟩ := h
  exact ⟨dx, t1, t2, t3, t4, t5, ws, ⟨e _ _ h.ins, e _ _ h.a1, h.as.same e, h.a2.on e, h.a3.on e, h.a4.on e, h.a5.on e⟩⟩
theorem putf0 (v : V) : putF "held_arrows" v [] = [(("held_arrows" : PySem.Str), v)] := rfl
theorem putf1 (a v : V) : putF "held_starts" v [(("held_arrows" : PySem.Str), a)] = [(("held_arrows" : PySem.Str), a), (("held_starts" : PySem.Str), v)] := by
  unfold putF
  rw [if_neg (by decide +kernel)]
  rfl
theorem putf2 (a b v : V) : putF "held_ends" v [(("held_arrows" : PySem.Str), a), (("held_starts" : PySem.Str), b)] = [(("held_arrows" : PySem.Str), a), (("held_starts" : PySem.Str), b), (("held_ends" : PySem.Str), v)] := by
  unfold putF
  rw [if_neg (by decide +kernel)]
  unfold putF
  rw [if_neg (by decide +kernel)]
  rfl
theorem putf3 (a b c v : V) : putF "held_states" v [(("held_arrows" : PySem.Str), a), (("held_starts" : PySem.Str), b), (("held_ends" : PySem.Str), c)] = [(("held_arrows" : PySem.Str), a), (("held_starts" : PySem.Str), b), (("held_ends" : PySem.Str), c), (("held_states" : PySem.Str), v)] := by
  unfold putF
  rw [if_neg (by decide +kernel)]
  unfold putF
  rw [if_neg (by decide +kernel)]
  unfold putF
  rw [if_neg (by decide +kernel)]
  rfl
theorem putf4 (a b c d v : V) : putF "held_letters" v [(("held_arrows" : PySem.Str), a), (("held_starts" : PySem.Str), b), (("held_ends" : PySem.Str), c), (("held_states" : PySem.Str), d)] = [(("held_arrows" : PySem.Str), a), (("held_starts" : PySem.Str), b), (("held_ends" : PySem.Str), c), (("held_states" : PySem.Str), d), (("held_letters" : PySem.Str), v)] := by
  unfold putF
  rw [if_neg (by decide +kernel)]
  unfold putF
  rw [if_neg (by decide +kernel)]
  unfold putF
  rw [if_neg (by decide +kernel)]
  unfold putF
  rw [if_neg (by decide +kernel)]
  rfl
theorem look_ne {f g : PySem.Str} {v : V} {r : List (PySem.Str × V)} (h : ¬ f = g) : List.lookup f ((g, v) :: r) = List.lookup f r := by
  have e : (f == g) = false := by simpa using h
  simp [List.lookup, e]
theorem look_eq {f : PySem.Str} {v : V} {r : List (PySem.Str × V)} : List.lookup f ((f, v) :: r) = some v := by simp [List.lookup]
theorem mfs1 (t1 t2 t3 t4 t5 : Addr) : (mfs t1 t2 t3 t4 t5).lookup ("held_arrows" : PySem.Str) = some (.ref t1) := look_eq
theorem mfs2 (t1 t2 t3 t4 t5 : Addr) : (mfs t1 t2 t3 t4 t5).lookup ("held_starts" : PySem.Str) = some (.ref t2) := (look_ne (by decide +kernel)).trans look_eq
theorem mfs3 (t1 t2 t3 t4 t5 : Addr) : (mfs t1 t2 t3 t4 t5).lookup ("held_ends" : PySem.Str) = some (.ref t3) := (look_ne (by decide +kernel)).trans ((look_ne (by decide +kernel)).trans look_eq)
theorem mfs4 (t1 t2 t3 t4 t5 : Addr) : (mfs t1 t2 t3 t4 t5).lookup ("held_states" : PySem.Str) = some (.ref t4) := (look_ne (by decide +kernel)).trans ((look_ne (by decide +kernel)).trans ((look_ne (by decide +kernel)).trans look_eq))
theorem mfs5 (t1 t2 t3 t4 t5 : Addr) : (mfs t1 t2 t3 t4 t5).lookup ("held_letters" : PySem.Str) = some (.ref t5) :=
  (look_ne (by decide +kernel)).trans ((look_ne (by decide +kernel)).trans ((look_ne (by decide +kernel)).trans ((look_ne (by decide +kernel)).trans look_eq)))
theorem seq_ins {K : PySem.W.Frag} {H : Hp} {m a C dx : Addr} {fs : List (PySem.Str × V)} {o : HO} {xs : List V} (h : SqL K H a xs) (hm : H m = some (.ins C dx fs)) : SqL K (upd H m o) a xs := by
  rcases h with (h | ⟨u, h⟩) | h
  · exact .inl (.inl ((upd_ne (ne_of h hm (by intro z; cases z))).trans h))
  · exact .inl (.inr ⟨u, (upd_ne (ne_of h hm (by intro z; cases z))).trans h⟩)
  · exact .inr h
theorem mlook (f : PySem.Str) (x : Arw) (ws : List V) : True := trivial
def spInit (K : PySem.W.Frag) (C : Addr) : Sp := fun vs H Q _ => ∃ (m a b e dx : Addr) (us : List V) (xs : List Arw) (ss es ns : List PySem.Str), vs = [.ref m, .ref a, .ref b, .ref e] ∧ H m = some (.ins C dx []) ∧ SqE K H a us ∧ ArS H us xs ∧ (∀ x ∈ xs, x.Ok) ∧ xs.length ≤ 400 ∧
  SqE K H b (ss.map V.str) ∧ SqE K H e (es.map V.str) ∧ (∀ s ∈ ss, Nm s) ∧ (∀ s ∈ es, Nm s) ∧ ss.length ≤ 1000 ∧ es.length ≤ 1000 ∧ ns.length ≤ 40 ∧ (∀ s ∈ ss, s ∈ ns) ∧ (∀ s ∈ es, s ∈ ns) ∧ (∀ x ∈ xs, x.s ∈ ns ∧ x.t ∈ ns) ∧
  ∀ (M : MachV) (H' : Hp), IsMach C H' m M → MOf M xs ss es → (∀ q o, q ≠ m → H q = some o → H' q = some o) → Q .non H'
theorem sqe_ins {K : PySem.W.Frag} {H : Hp} {m a C dx : Addr} {fs : List (PySem.Str × V)} {o : HO} {xs : List V} (h : SqE K H a xs) (hm : H m = some (.ins C dx fs)) : SqE K (upd H m o) a xs := by
  rcases h with h | h
  · exact .inl (seq_ins h hm)
  · refine .inr ?_
    rcases h with (h | ⟨u, h⟩) | h
    · exact .inl (.inl ((upd_ne (ne_of h hm (by intro z; cases z))).trans h))
    · exact .inl (.inr ⟨u, (upd_ne (ne_of h hm (by intro z; cases z))).trans h⟩)
    · exact .inr h
end Bz

namespace Bz
open PySem PySem.Spec PyProof.Rows L2
/-! ### min of a list of ints, what stands where there are none told -/
/-- o tells the least of what P says -/
def LeastO (P : Int → Prop) (o : Option Int) : Prop := match o with
  | none => ∀ n, ¬ P n
  | some m => P m ∧ ∀ n, P n → m ≤ n
theorem LeastO.uniq {P : Int → Prop} {a b : Option Int} (ha : LeastO P a) (hb : LeastO P b) : a = b := by
  cases a with
  | none =>
    cases b with
    | none => rfl
    | some m => exact absurd hb.1 (ha m)
  | some k =>
    cases b with
    | none => exact absurd ha.1 (hb k)
    | some m =>
      have h1 := ha.2 m hb.1
      have h2 := hb.2 k ha.1
      have e : k = m := by omega
      rw [e]
theorem LeastO.iff {P Q : Int → Prop} (h : ∀ n, P n ↔ Q n) {o : Option Int} (k : LeastO P o) : LeastO Q o := by
  have e : P = Q := funext fun n => propext (h n)
  rw [← e]
  exact k
def optV : Option Int → V
  | none => .non
  | some n => .int n
theorem strS {X : Cx} : CallR X (.type "str") (fun xs H Q => ∃ a, xs = [V.str a] ∧ Q (.str a) H) := by
  intro pins s σ H xs us Q I r h
  obtain ⟨z, rfl, k⟩ := h
  obtain ⟨u, rfl, ru⟩ := vals1 r
  obtain ⟨t, rfl⟩ := ru
  exact PySem.P.str_of_str ⟨.str z, H, I, ⟨t, rfl⟩, k⟩
theorem callB_kw {M : Model} {A : Around} {E : Value → Shared → Prop} {s : Shared} {pos : Pos} {T : String} {t : Sem Value} {kw : PySem.Str} {x : Sem Value} {Q : Value → Shared → Prop}
    (h : wpAny M A t (fun v s1 => wpAny M A x (fun k s2 => wpAny M A (call (.builtin T) [v] [(kw, k)]) Q E s2) E s1) E s) :
    wpAny M A (callWith pos (.builtin T) [] [(false, t)] [(some kw, x)]) Q E s := by
  unfold callWith
  refine wpAny_bind (wpAny_holding (wpAny_mono (Q := fun (a : Args) s1 => wpAny M A (call (.builtin T) ([] ++ a.pos) a.kw) Q E s1) ?_ (fun a s1 h1 => wpAny_bind (wpAny_standAt ?_)) fun _ _ z => z))
  · refine evalArgs_kwB (by rfl) ?_
    refine Calls.spliced_cons (wpAny_mono h (fun v s1 h1 => Calls.spliced_nil ?_) fun _ _ z => z)
    exact evalAll_cons (wpAny_mono h1 (fun k s2 h2 => wpAny_evalAll_nil h2) fun _ _ z => z)
  · refine wpAny_bind (wpAny_pure ?_)
    exact wpAny_bind (wpAny_mono h1 (fun r s2 hr => wpAny_bind (wpAny_holding (wpAny_point (wpAny_pure hr)))) fun _ _ z => z)
theorem dp_ints {K : PySem.W.Frag} {H : Hp} : ∀ ns : List Int, DpAll K H (ns.map V.int) (ns.map PyData.int)
  | [] => .nil
  | n :: ns => .cons (.int n) (dp_ints ns)
theorem minOf_is (y : Int) (ys : List Int) : PySem.W.minOf y ys ∈ y :: ys ∧ ∀ z ∈ y :: ys, PySem.W.minOf y ys ≤ z := by
  unfold PySem.W.minOf
  induction ys generalizing y with
  | nil => exact ⟨List.mem_cons_self .., fun z hz => by rw [List.mem_singleton.mp hz]; exact Int.le_refl _⟩
  | cons x ys ih =>
    rw [List.foldl_cons]
    have e : (if PySem.W.DatumOrd.lt x y = true then x else y) = if x < y then x else y := by
      show (if decide (x < y) = true then x else y) = _
      by_cases h : x < y <;> simp [h]
    rw [e]
    obtain ⟨h1, h2⟩ := ih (if x < y then x else y)
    have q : ∀ z ∈ (if x < y then x else y) :: ys, z ∈ y :: x :: ys := by
      intro z hz
      rcases List.mem_cons.mp hz with rfl | hz
      · split <;> simp
      · simp [hz]
    refine ⟨q _ h1, fun z hz => ?_⟩
    have h0 := h2 _ (List.mem_cons_self ..)
    have h3 : ∀ z ∈ ys, List.foldl (fun a y => if PySem.W.DatumOrd.lt y a = true then y else a) (if x < y then x else y) ys ≤ z := fun z hz => h2 z (List.mem_cons_of_mem _ hz)
    generalize List.foldl (fun a y => if PySem.W.DatumOrd.lt y a = true then y else a) (if x < y then x else y) ys = r at h0 h3 ⊢
    have h4 : r ≤ x ∧ r ≤ y := by
      by_cases c : x < y
      · rw [if_pos c] at h0
        omega
      · rw [if_neg c] at h0
        omega
    rcases List.mem_cons.mp hz with rfl | hz
    · exact h4.2
    · rcases List.mem_cons.mp hz with rfl | hz
      · exact h4.1
      · exact h3 z hz
def tMinD (K : PySem.W.Frag) (te : TE) : TE := fun σ H Q => te σ H fun v H1 => ∃ (l : Addr) (ns : List Int), v = .ref l ∧ SqL K H1 l (ns.map V.int) ∧ ∀ o : Option Int, LeastO (fun n => n ∈ ns) o → Q (optV o) H1
theorem pe_minD (K : PySem.W.Frag) {X : Cx} {e : Expr} {te : TE} {p pos kpos : Pos} {j : Nat} {cpos : Pos} (hc : X.calm = true) (hu : X.A.units + 64 < cLine) (hg : Gl X "min") (hm : X.mg "min" = none) (he : PE X e te) (hs : starEach [e] X.env = [(false, eval e X.env)] := by rfl) (hK : X.K = K := by rfl) :
    PE X (.Call (.Name "min" p) [e] [⟨some "default", .Constant .none j cpos, kpos⟩] pos) (tMinD K te) := by
  subst hK
  refine ⟨fun pins s σ H Q I h => ?_⟩
  refine wpAny_Call_Name_kw (ld_blt I hg hm boot_min ?_)
  rw [hs]
  show wpAny _ _ (callWith pos (Value.builtin "min") [] [(false, eval e X.env)] [(some "default", do let v ← eval (.Constant .none j cpos) X.env; standAt pos; pure v)]) _ _ _
  refine callB_kw (thn (he.run pins s σ H _ I h) fun u s1 ⟨v, H1, I1, r1, l, ns, ev, hq, q⟩ => ?_)
  subst ev
  obtain rfl : u = Value.ref l := r1
  refine wpAny_bind (wpAny_Constant_none (wpAny_bind (wpAny_standAt (wpAny_pure ?_))))
  obtain ⟨its, rv, pl, hz⟩ := I1.list hq
  obtain ⟨as, ra⟩ := Dp.readsAll I1 _ _ _ (dp_ints ns) rv
  refine PySem.W.min_list_datum_default (α := Int) (xs := ns) (I1.ok.hd hc) pl.isList ⟨as, by
    have e : its.toArray.toList = its := by simp
    rw [e]
    exact ra⟩ (by show X.A.units + 1 + 0 < cLine; omega) (fun e0 h' tk k => ?_) (fun y ys i v h' tk e1 hi hh k => ?_)
  · subst e0
    exact ⟨.non, H1, I1.kept k, rfl, q none fun n hn => by cases hn⟩
  · subst e1
    obtain ⟨as', r'⟩ := hh
    have ht : ∃ t, v = Value.int (PySem.W.minOf y ys) t := by
      have r2 : Reads h' v (.int (PySem.W.minOf y ys)) as' := r'
      cases r2
      exact ⟨_, rfl⟩
    obtain ⟨t, rfl⟩ := ht
    exact ⟨.int _, H1, I1.kept k, ⟨t, rfl⟩, q (some _) ⟨(minOf_is y ys).1, fun n hn => (minOf_is y ys).2 n hn⟩⟩
theorem kmin1 (K : PySem.W.Frag) {X : Cx} (hc : X.calm = true) (h : X.K = K := by rfl) : CallR X (.builtin "min") (rMin K) := by subst h; exact cr_min hc
/-- one of two ways to walk -/
theorem pi_or {X : Cx} {tg e : Expr} {a b : TI} (ha : PI X tg e a) (hb : PI X tg e b) : PI X tg e (fun σ H R => a σ H R ∨ b σ H R) :=
  ⟨fun pins s σ H R I h => h.elim (fun h => ha.run pins s σ H R I h) (fun h => hb.run pins s σ H R I h)⟩
end Bz

namespace Bz
open PySem PySem.Spec PyProof.Rows L2
/-! ### runs and their sums -/
def sgnL (z : PySem.Str) : List PySem.Str := z.cps.toList.map fun ch => (⟨#[ch]⟩ : PySem.Str)
theorem sgnL_len (z : PySem.Str) : (sgnL z).length = z.cps.size := by
  unfold sgnL
  rw [List.length_map, Array.length_toList]
theorem sgnL_at {z : PySem.Str} {i c : Nat} (h : z.cps[i]? = some c) : (sgnL z)[i]? = some (⟨#[c]⟩ : PySem.Str) := by
  unfold sgnL
  rw [List.getElem?_map, Array.getElem?_toList, h]
  rfl
def nextS (xs : List Arw) (l : PySem.Str) (p : PySem.Str × Int) : List (PySem.Str × Int) := (xs.filter fun x => decide (x.s = p.1 ∧ x.l = l)).map fun x => (x.t, p.2 + x.c)
def sums (xs : List Arw) (ls : List PySem.Str) (f : List (PySem.Str × Int)) : List (PySem.Str × Int) := ls.foldl (fun f l => f.flatMap (nextS xs l)) f
theorem sums_snoc (xs : List Arw) (ls : List PySem.Str) (l : PySem.Str) (f : List (PySem.Str × Int)) : sums xs (ls ++ [l]) f = (sums xs ls f).flatMap (nextS xs l) := by
  unfold sums
  rw [List.foldl_append]
  rfl
def Rch (xs : List Arw) (ss ls : List PySem.Str) (q : PySem.Str) (n : Int) : Prop := ∃ a ∈ ss, (q, n) ∈ sums xs ls [(a, 0)]
theorem reach_nil {xs : List Arw} {ss : List PySem.Str} {q : PySem.Str} {n : Int} : Rch xs ss [] q n ↔ q ∈ ss ∧ n = 0 := by
  unfold Rch sums
  constructor
  · rintro ⟨a, ha, h⟩
    have := List.mem_singleton.mp h
    obtain ⟨rfl, rfl⟩ := Prod.mk.inj this
    exact ⟨ha, rfl⟩
  · rintro ⟨h, rfl⟩
    exact ⟨q, h, List.mem_singleton.mpr rfl⟩
theorem reach_step {xs : List Arw} {ss ls : List PySem.Str} {l q : PySem.Str} {n : Int} : Rch xs ss (ls ++ [l]) q n ↔ ∃ x ∈ xs, x.l = l ∧ x.t = q ∧ ∃ m, Rch xs ss ls x.s m ∧ n = m + x.c := by
  unfold Rch
  constructor
  · rintro ⟨a, ha, h⟩
    rw [sums_snoc] at h
    obtain ⟨⟨p, m⟩, hp, hm⟩ := List.mem_flatMap.mp h
    unfold nextS at hm
    obtain ⟨x, hx, e⟩ := List.mem_map.mp hm
    obtain ⟨h1, h2⟩ := List.mem_filter.mp hx
    obtain ⟨h3, h4⟩ := of_decide_eq_true h2
    obtain ⟨rfl, rfl⟩ := Prod.mk.inj e
    exact ⟨x, h1, h4, rfl, m, ⟨a, ha, by rw [h3]; exact hp⟩, rfl⟩
  · rintro ⟨x, hx, rfl, rfl, m, ⟨a, ha, h⟩, rfl⟩
    refine ⟨a, ha, ?_⟩
    rw [sums_snoc]
    refine List.mem_flatMap.mpr ⟨(x.s, m), h, ?_⟩
    exact List.mem_map.mpr ⟨x, List.mem_filter.mpr ⟨hx, decide_eq_true ⟨rfl, rfl⟩⟩, rfl⟩
theorem reach_congr {xs ys : List Arw} {ss ts : List PySem.Str} (h : ∀ x, x ∈ xs ↔ x ∈ ys) (hs : ∀ s, s ∈ ss ↔ s ∈ ts) : ∀ (k : Nat) (ls : List PySem.Str) (q : PySem.Str) (n : Int), ls.length = k → (Rch xs ss ls q n ↔ Rch ys ts ls q n)
  | 0, ls, q, n, e => by
    obtain rfl : ls = [] := List.length_eq_zero_iff.mp e
    rw [reach_nil, reach_nil, hs]
  | k + 1, ls, q, n, e => by
    have ne : ls ≠ [] := by
      rintro rfl
      cases e
    obtain ⟨r, l, rfl⟩ : ∃ r l, ls = r ++ [l] := ⟨ls.dropLast, ls.getLast ne, (List.dropLast_concat_getLast ne).symm⟩
    rw [List.length_append, List.length_singleton] at e
    have ih := fun q n => reach_congr h hs k r q n (by omega)
    rw [reach_step, reach_step]
    constructor
    · rintro ⟨x, hx, a, b, m, c, d⟩
      exact ⟨x, (h x).mp hx, a, b, m, (ih _ _).mp c, d⟩
    · rintro ⟨x, hx, a, b, m, c, d⟩
      exact ⟨x, (h x).mpr hx, a, b, m, (ih _ _).mpr c, d⟩
/-! ### one letter further -/
abbrev Mv := PySem.Str × PySem.Str × Int
def mvOf (x : Arw) : Mv := (x.s, x.t, x.c)
abbrev mvV (m : Mv) : List V := [.str m.1, .str m.2.1, .int m.2.2]
def advS (f : PySem.Str → Option Int) (g : PySem.Str → Option Int) (m : Mv) : PySem.Str → Option Int := match f m.1 with
  | none => g
  | some n => fun q => if q = m.2.1 then some (if (g q).getD (n + m.2.2) < n + m.2.2 then (g q).getD (n + m.2.2) else n + m.2.2) else g q
def adv (f : PySem.Str → Option Int) (mv : List Mv) : PySem.Str → Option Int := mv.foldl (advS f) fun _ => none
theorem adv_snoc (f : PySem.Str → Option Int) (mv : List Mv) (m : Mv) : adv f (mv ++ [m]) = advS f (adv f mv) m := by
  unfold adv
  rw [List.foldl_append]
  rfl
theorem advS_least {f g : PySem.Str → Option Int} {P : PySem.Str → Int → Prop} {m : Mv} (h : ∀ q, LeastO (P q) (g q)) (q : PySem.Str) : LeastO (fun n => P q n ∨ (m.2.1 = q ∧ ∃ k, f m.1 = some k ∧ n = k + m.2.2)) (advS f g m q) := by
  unfold advS
  cases hf : f m.1 with
  | none =>
    refine (h q).iff fun n => ⟨.inl, ?_⟩
    rintro (h | ⟨_, k, e, _⟩)
    · exact h
    · cases e
  | some k =>
    simp only
    by_cases e : q = m.2.1
    · rw [if_pos e]
      have hq := h q
      cases hg : g q with
      | none =>
        rw [hg] at hq
        simp only [Option.getD_none, Int.lt_irrefl, if_false]
        refine ⟨.inr ⟨e.symm, k, rfl, rfl⟩, ?_⟩
        rintro n (h | ⟨_, k', e', rfl⟩)
        · exact absurd h (hq n)
        · rw [← Option.some.inj e']
          exact Int.le_refl _
      | some j =>
        rw [hg] at hq
        obtain ⟨h1, h2⟩ := hq
        simp only [Option.getD_some]
        by_cases c : j < k + m.2.2
        · rw [if_pos c]
          refine ⟨.inl h1, ?_⟩
          rintro n (h | ⟨_, k', e', rfl⟩)
          · exact h2 n h
          · rw [← Option.some.inj e']
            omega
        · rw [if_neg c]
          refine ⟨.inr ⟨e.symm, k, rfl, rfl⟩, ?_⟩
          rintro n (h | ⟨_, k', e', rfl⟩)
          · have := h2 n h
            omega
          · rw [← Option.some.inj e']
            exact Int.le_refl _
    · rw [if_neg e]
      refine (h q).iff fun n => ⟨.inl, ?_⟩
      rintro (h | ⟨a, _⟩)
      · exact h
      · exact absurd a.symm e
theorem adv_least_from (f : PySem.Str → Option Int) : ∀ (mv : List Mv) (g : PySem.Str → Option Int) (P : PySem.Str → Int → Prop), (∀ q, LeastO (P q) (g q)) → ∀ q, LeastO (fun n => P q n ∨ ∃ m ∈ mv, m.2.1 = q ∧ ∃ k, f m.1 = some k ∧ n = k + m.2.2) (mv.foldl (advS f) g q)
  | [], g, P, h, q => (h q).iff fun n => ⟨.inl, fun z => z.elim id fun ⟨m, hm, _⟩ => (by cases hm)⟩
  | m :: mv, g, P, h, q => by
    rw [List.foldl_cons]
    refine (adv_least_from f mv (advS f g m) _ (fun q => advS_least h q) q).iff fun n => ?_
    constructor
    · rintro ((a | a) | ⟨x, hx, a⟩)
      · exact .inl a
      · exact .inr ⟨m, List.mem_cons_self .., a⟩
      · exact .inr ⟨x, List.mem_cons_of_mem _ hx, a⟩
    · rintro (a | ⟨x, hx, a⟩)
      · exact .inl (.inl a)
      · rcases List.mem_cons.mp hx with rfl | hx
        · exact .inl (.inr a)
        · exact .inr ⟨x, hx, a⟩
theorem adv_reach {xs : List Arw} {ss ls : List PySem.Str} {l : PySem.Str} {f : PySem.Str → Option Int} (h : ∀ q, LeastO (Rch xs ss ls q) (f q)) (q : PySem.Str) :
    LeastO (Rch xs ss (ls ++ [l]) q) (adv f ((xs.filter fun x => decide (x.l = l)).map mvOf) q) := by
  have a := adv_least_from f ((xs.filter fun x => decide (x.l = l)).map mvOf) (fun _ => none) (fun _ _ => False) (fun _ _ z => z) q
  -- the least of what goes one arrow on from the least
  have key : ∀ (s : PySem.Str), match f s with | none => ∀ n, ¬ Rch xs ss ls s n | some k => Rch xs ss ls s k ∧ ∀ n, Rch xs ss ls s n → k ≤ n := fun s => h s
  change LeastO _ (adv f _ q) at a
  revert a
  generalize adv f ((xs.filter fun x => decide (x.l = l)).map mvOf) q = o
  intro a
  have mem : ∀ m, m ∈ (xs.filter fun x => decide (x.l = l)).map mvOf ↔ ∃ x ∈ xs, x.l = l ∧ mvOf x = m := fun m => by
    rw [List.mem_map]
    constructor
    · rintro ⟨x, hx, e⟩
      obtain ⟨h1, h2⟩ := List.mem_filter.mp hx
      exact ⟨x, h1, of_decide_eq_true h2, e⟩
    · rintro ⟨x, h1, h2, e⟩
      exact ⟨x, List.mem_filter.mpr ⟨h1, decide_eq_true h2⟩, e⟩
  cases o with
  | none =>
    intro n hn
    obtain ⟨x, hx, el, et, m, hm, rfl⟩ := reach_step.mp hn
    have k := key x.s
    cases hf : f x.s with
    | none => rw [hf] at k; exact k m hm
    | some j => exact a (j + x.c) (.inr ⟨mvOf x, (mem _).mpr ⟨x, hx, el, rfl⟩, et, j, hf, rfl⟩)
  | some k =>
    obtain ⟨h1, h2⟩ := a
    constructor
    · rcases h1 with h1 | ⟨m, hm, et, j, hf, e⟩
      · exact h1.elim
      · obtain ⟨x, hx, el, rfl⟩ := (mem _).mp hm
        have kk := key x.s
        rw [show f x.s = some j from hf] at kk
        exact reach_step.mpr ⟨x, hx, el, et, j, kk.1, e⟩
    · intro n hn
      obtain ⟨x, hx, el, et, m, hm, rfl⟩ := reach_step.mp hn
      have kk := key x.s
      cases hf : f x.s with
      | none => rw [hf] at kk; exact absurd hm (kk m)
      | some j =>
        rw [hf] at kk
        have q1 := kk.2 m hm
        have q2 := h2 (j + x.c) (.inr ⟨mvOf x, (mem _).mpr ⟨x, hx, el, rfl⟩, et, j, hf, rfl⟩)
        omega
/-! ### as the heap has it -/
/-- a list's items, tuples of a state, the state behind it and a price -/
abbrev MvS (H : Hp) (us : List V) (mv : List Mv) : Prop := Paired (fun v m => ∃ q, v = V.ref q ∧ H q = some (.tup (mvV m))) us mv
theorem MvS.same {H H' : Hp} {us : List V} {mv : List Mv} (h : MvS H us mv) (e : Same H H') : MvS H' us mv := Paired.mapP h fun v m ⟨q, ev, hq⟩ => ⟨q, ev, e _ _ hq⟩
theorem paired_snoc {α β : Type} {R : α → β → Prop} {as : List α} {bs : List β} {a : α} {b : β} (h : Paired R as bs) (r : R a b) : Paired R (as ++ [a]) (bs ++ [b]) := by
  induction h with
  | nil => exact .cons r .nil
  | cons x _ ih => exact .cons x ih
/-- the dict kvs holds f -/
def Holds1 (kvs : List (Ky × V)) (f : PySem.Str → Option Int) : Prop := ∀ q : PySem.Str, valV kvs (.inr q) = (f q).map V.int
def Moves (K : PySem.W.Frag) (xs : List Arw) (H : Hp) (kvs : List (Ky × V)) : Prop := ∀ l : PySem.Str, (valV kvs (.inr l) = none ∧ ∀ x ∈ xs, x.l ≠ l) ∨
  ∃ q us, valV kvs (.inr l) = some (.ref q) ∧ SqL K H q us ∧ MvS H us ((xs.filter fun x => decide (x.l = l)).map mvOf)
theorem Moves.same {K : PySem.W.Frag} {xs : List Arw} {H H' : Hp} {kvs : List (Ky × V)} (h : Moves K xs H kvs) (e : Same H H') : Moves K xs H' kvs := fun l => (h l).imp id fun ⟨q, us, a, b, c⟩ => ⟨q, us, a, e.seq b, c.same e⟩
structure MGood (M : MachV) : Prop where
  nd : M.lets.Nodup
  all : ∀ x ∈ M.ars, x.l ∈ M.lets
  al : M.ars.length ≤ 500
  ll : M.lets.length ≤ 500
  sl : M.sts.length ≤ 1000
  el : M.ens.length ≤ 1000
def RowOk (s : PySem.Str) : Prop := s.length ≤ 5000 ∧ ∀ c ∈ TL.tl s, Sg c
def spIsRow : Sp := fun vs H Q _ => ∃ s : PySem.Str, vs = [.str s] ∧ RowOk s ∧ Q (.bl true) H
def spCheckRow : Sp := fun vs H Q _ => ∃ s : PySem.Str, vs = [.str s] ∧ RowOk s ∧ Q .non H
def spCheckState (K : PySem.W.Frag) : Sp := fun vs H Q _ => ∃ (t : Addr) (ss : List PySem.Str) (s : PySem.Str), vs = [.ref t, .str s] ∧ SqT K H t (ss.map V.str) ∧ s ∈ ss ∧ Q .non H
def spLeast (K : PySem.W.Frag) : Sp := fun vs H Q _ => ∃ (d t : Addr) (kvs : List (Ky × V)) (f : PySem.Str → Option Int) (es : List PySem.Str), vs = [.ref d, .ref t] ∧ H d = some (.dK kvs) ∧ Holds1 kvs f ∧ SqE K H t (es.map V.str) ∧ es.length ≤ 1000 ∧
  ∀ (o : Option Int) (H' : Hp), LeastO (fun n => ∃ e ∈ es, f e = some n) o → Same H H' → Q (optV o) H'
def spAdv (K : PySem.W.Frag) : Sp := fun vs H Q _ => ∃ (d a : Addr) (kvs : List (Ky × V)) (f : PySem.Str → Option Int) (us : List V) (mv : List Mv), vs = [.ref d, .ref a] ∧ H d = some (.dK kvs) ∧ Holds1 kvs f ∧ SqL K H a us ∧ MvS H us mv ∧ mv.length ≤ 1000 ∧
  ∀ (d' : Addr) (kvs' : List (Ky × V)) (H' : Hp), H d' = none → H' d' = some (.dK kvs') → Holds1 kvs' (adv f mv) → Same H H' → Q (.ref d') H'
def spMoves (K : PySem.W.Frag) (C : Addr) : Sp := fun vs H Q _ => ∃ (m : Addr) (M : MachV), vs = [.ref m] ∧ IsMach C H m M ∧ MGood M ∧
  ∀ (d : Addr) (kvs : List (Ky × V)) (H' : Hp), H d = none → H' d = some (.dK kvs) → Moves K M.ars H' kvs → Same H H' → Q (.ref d) H'
def spFollow (K : PySem.W.Frag) (C : Addr) : Sp := fun vs H Q _ => ∃ (m t : Addr) (M : MachV) (row : PySem.Str) (ss : List PySem.Str), vs = [.ref m, .str row, .ref t] ∧ IsMach C H m M ∧ MGood M ∧ SqE K H t (ss.map V.str) ∧ ss.length ≤ 1000 ∧
  ∀ (d : Addr) (kvs : List (Ky × V)) (f : PySem.Str → Option Int) (H' : Hp), H' d = some (.dK kvs) → Holds1 kvs f → (∀ q, LeastO (Rch M.ars ss (sgnL row) q) (f q)) → Same H H' → Q (.ref d) H'
def spPrice (C : Addr) : Sp := fun vs H Q _ => ∃ (m : Addr) (M : MachV) (row : PySem.Str), vs = [.ref m, .str row] ∧ IsMach C H m M ∧ MGood M ∧ RowOk row ∧
  ∀ (o : Option Int) (H' : Hp), LeastO (fun n => ∃ e ∈ M.ens, Rch M.ars M.sts (sgnL row) e n) o → Same H H' → Q (optV o) H'
def spBetween (C : Addr) : Sp := fun vs H Q _ => ∃ (m : Addr) (M : MachV) (row a b : PySem.Str), vs = [.ref m, .str row, .str a, .str b] ∧ IsMach C H m M ∧ MGood M ∧ RowOk row ∧ a ∈ M.sta ∧ b ∈ M.sta ∧
  ∀ (o : Option Int) (H' : Hp), LeastO (fun n => ∃ e ∈ [b], Rch M.ars [a] (sgnL row) e n) o → Same H H' → Q (optV o) H'
theorem reach_least {xs : List Arw} {ss ls es : List PySem.Str} {f : PySem.Str → Option Int} (h : ∀ q, LeastO (Rch xs ss ls q) (f q)) {o : Option Int} (k : LeastO (fun n => ∃ e ∈ es, f e = some n) o) : LeastO (fun n => ∃ e ∈ es, Rch xs ss ls e n) o := by
  have key : ∀ (s : PySem.Str), match f s with | none => ∀ n, ¬ Rch xs ss ls s n | some k => Rch xs ss ls s k ∧ ∀ n, Rch xs ss ls s n → k ≤ n := fun s => h s
  cases o with
  | none =>
    rintro n ⟨e, he, r⟩
    have q := key e
    cases hf : f e with
    | none => rw [hf] at q; exact q n r
    | some j => exact k j ⟨e, he, hf⟩
  | some m =>
    obtain ⟨⟨e, he, hf⟩, h2⟩ := k
    have q := key e
    rw [hf] at q
    refine ⟨⟨e, he, q.1⟩, ?_⟩
    rintro n ⟨e', he', r⟩
    have q' := key e'
    cases hf' : f e' with
    | none => rw [hf'] at q'; exact absurd r (q' n)
    | some j =>
      rw [hf'] at q'
      have := q'.2 n r
      have := h2 j ⟨e', he', hf'⟩
      omega
end Bz

namespace Bz
open PySem PySem.Spec PyProof.Rows L2
/-! ### a name given a dict comprehension on one line -/
theorem swD_true {kx vx : Expr} {gs : List Comprehension} {scope : Scope} {pos py : Pos} {y : PySem.Str} {l : Nat} {env : Env} (h1 : env.scope.kind = .function) (h2 : env.scope.names.lookup y = some .local) (h3 : (py.line == pos.line) = true)
    (h4 : (scope.names.any fun (n, k) => n == y && (k == .local || k == .cell)) = false) : swapsWith (.DictComp kx vx gs scope pos) (some (.Name y py)) l env = pure true := by
  have a : env.kindOf y = some .local := h2
  have b : env.blockKind = .function := by
    unfold Env.blockKind
    rw [h1] <;> rfl
  unfold swapsWith
  simp only [b, a, h4, Expr.pos, h3] <;> rfl
section
variable {X : Cx}
theorem ps_setDc {i : Nat} {y : PySem.Str} {py : Pos} {kx vx tg iter : Expr} {ifs : List Expr} {scope : Scope} {own : List (PySem.Str × Nat)} {pos spos : Pos} {wi : TI} {g : TG} {tt : TT} {tk tv : TE} (hc : X.calm = true) (hN : X.N.Nodup) (hy : X.N[i]? = some y)
    (hyl : X.env.scope.names.lookup y = some .local) (hsw : swapsWith (.DictComp kx vx [⟨tg, iter, ifs, 0⟩] scope pos) (some (.Name y py)) spos.line X.env = pure true) (hi : PI X tg iter wi) (ok : BlkOk X.N X.env.scope scope own)
    (hg : ∀ (s : Shared) (H : Hp) (C : Addr) (cl : List (PySem.Str × Addr)) (fp : List Addr), PG (X.blk s H scope (compEnvC scope cl C X.env) fp) tg g)
    (ht : ∀ (s : Shared) (H : Hp) (C : Addr) (cl : List (PySem.Str × Addr)) (fp : List Addr), PTs (X.blk s H scope (compEnvC scope cl C X.env) fp) ifs tt)
    (hk : ∀ (s : Shared) (H : Hp) (C : Addr) (cl : List (PySem.Str × Addr)) (fp : List Addr), PE (X.blk s H scope (compEnvC scope cl C X.env) fp) kx tk)
    (hv : ∀ (s : Shared) (H : Hp) (C : Addr) (cl : List (PySem.Str × Addr)) (fp : List Addr), PE (X.blk s H scope (compEnvC scope cl C X.env) fp) vx tv)
    (hs : ∀ x, foldedSetIterable iter X.env x = pure x := by intro _; rfl) :
    PS X (.Assign [.Name y py] (.DictComp kx vx [⟨tg, iter, ifs, 0⟩] scope pos) spos) (tAsg (tDc wi g tt tk tv (own.map (·.2))) (gName i)) := by
  refine ⟨fun pins s σ H D I h0 => ?_⟩
  rw [exec_Assign_Name_used _ _ _ _ hsw]
  refine wpAny_bind (wpAny_standAt (wpAny_bind ?_))
  show wpAny _ X.A (do let _ ← comprehension (.DictComp kx vx [⟨tg, iter, ifs, 0⟩] scope pos) scope X.env (firstIterPos [⟨tg, iter, ifs, 0⟩] pos) newDict false (eval iter X.env) (some (assign (.Name y py) X.env))) _ _ s
  have h : tDc wi g tt tk tv (own.map (·.2)) σ H (fun x H1 => gName i x σ H1 D.nx) := h0
  refine wpAny_bind (thn (dc_core (Qf := fun _ z => SP X pins D .next z) hc hN I hi ok hg ht hk hv hs h fun d C s1 m H1 I1 q hn f => ?_) fun _ s1 hq => wpAny_pure (wpAny_pure hq))
  show wpAny _ _ (assign (.Name y py) X.env (.ref d)) _ _ _
  refine wpAny_assign_Name (store_ok2 (v := V.ref d) I1 hN hy (.inl hyl) rfl (fun s2 I2 ⟨a, sb, ha⟩ => ?_) (.inr hyl))
  obtain ⟨e0, e1, e2, e3, e4, e5⟩ := f
  have n : C ≠ a := ha.elim (fun z => by rw [z]; exact e1) (fun z e => e4 y a z e.symm)
  exact ⟨m, hn.sameBut sb n, fun h3 sb3 => ⟨_, H1, I2.turned (t' := s2.toks) (fun b o hb e => (sb3.2 b hb).trans e) e0 e1 e3 e4 e5, q⟩⟩
end
/-- a dict comprehension over a walk -/
theorem dc_it {J : It} {n : Nat} {G : Hp → Prop} {Y : Nat → Hp → V → Hp → Prop} (w : Walk J n G Y) {g : TG} {tt : TT} {tk tv : TE} {vs : List Nat} {σ : L2.St} {H1 : Hp} {D : Addr} {Qd : Hp → Prop} (Pv : Nat → Hp → Prop) (h0 : Pv 0 (upd H1 D (.dK []))) (hG : ∀ i H, i ≤ n → Pv i H → G H)
    (hs : ∀ i x H H', i < n → Pv i H → Y i H x H' → g x (wipe σ vs) H' fun σ2 H2 => wipe σ2 vs = wipe σ vs ∧ tt σ2 H2 fun b H3 =>
      if b = true then tk σ2 H3 fun y H4 => tv σ2 H4 fun z H5 => ∃ kvs k, y = kV k ∧ H5 D = some (.dK kvs) ∧ kvs.length < sizeLine ∧ Pv (i + 1) (upd H5 D (.dK (putK kvs k z))) else Pv (i + 1) H3) (hd : ∀ H, Pv n H → Qd H) :
    ∃ W : Nat → Nat → Hp → Prop, (∃ m, W 0 m (upd H1 D (.dK []))) ∧ ∀ i m H, W i m H →
      (J.stop i H ∧ Qd H) ∨ (J.go i H ∧ ∃ Nx : Hp → Prop, (∀ H', Nx H' → ∃ m', m' < m ∧ W (i + 1) m' H') ∧ ∀ x H', J.yld i H x H' → g x (wipe σ vs) H' fun σ2 H2 => wipe σ2 vs = wipe σ vs ∧ tt σ2 H2 fun b H3 =>
        if b = true then tk σ2 H3 fun y H4 => tv σ2 H4 fun z H5 => ∃ kvs k, y = kV k ∧ H5 D = some (.dK kvs) ∧ kvs.length < sizeLine ∧ Nx (upd H5 D (.dK (putK kvs k z))) else Nx H3) := by
  refine ⟨fun i m H => m = n - i ∧ i ≤ n ∧ Pv i H, ⟨n, by omega, Nat.zero_le _, h0⟩, ?_⟩
  rintro i m H ⟨rfl, hi, p⟩
  have q := hG i H hi p
  by_cases c : i < n
  · exact .inr ⟨w.goes i H c q, Pv (i + 1), fun H' p' => ⟨n - (i + 1), by omega, rfl, c, p'⟩, fun x H' y => hs i x H H' c p (w.yields i H x H' c q y)⟩
  · obtain rfl : i = n := by omega
    exact .inl ⟨w.stops H q, hd H p⟩
theorem putK_new {κ : Type} [DecidableEq κ] {kvs : List (κ × V)} {k : κ} {v : V} (h : k ∉ kvs.map (·.1)) : putK kvs k v = kvs ++ [(k, v)] := by
  unfold putK
  have e : (kvs.any fun kv => decide (kv.1 = k)) = false := by
    rw [Bool.eq_false_iff]
    intro q
    obtain ⟨p, hp, e⟩ := List.any_eq_true.mp q
    exact h (List.mem_map.mpr ⟨p, hp, of_decide_eq_true e⟩)
  rw [e]
  rfl
theorem valV_none {κ : Type} [DecidableEq κ] {kvs : List (κ × V)} {k : κ} (h : k ∉ kvs.map (·.1)) : valV kvs k = none := by
  unfold valV
  have e : (kvs.find? fun kv => decide (kv.1 = k)) = none := by
    rw [List.find?_eq_none]
    intro p hp c
    exact h (List.mem_map.mpr ⟨p, hp, of_decide_eq_true c⟩)
  rw [e]
  rfl
/-- a letter and where its list stands -/
abbrev pk (p : PySem.Str × Addr) : Ky × V := (.inr p.1, .ref p.2)
structure MvInv (H H' : Hp) (D : Addr) (ps : List (PySem.Str × Addr)) (c : PySem.Str → List Mv) : Prop where
  d : H' D = some (.dK (ps.map pk))
  nd : (ps.map (·.2)).Nodup
  each : ∀ p ∈ ps, H p.2 = none ∧ p.2 ≠ D ∧ ∃ us, H' p.2 = some (.lst us) ∧ MvS H' us (c p.1)
  same : Same H H'
  hD : H D = none
theorem pk_keys (ps : List (PySem.Str × Addr)) : (ps.map pk).map (·.1) = (ps.map (·.1)).map Sum.inr := by
  rw [List.map_map, List.map_map]
  rfl
theorem pk_mem {ps : List (PySem.Str × Addr)} {l : PySem.Str} : (Sum.inr l : Ky) ∈ (ps.map pk).map (·.1) ↔ l ∈ ps.map (·.1) := by
  rw [pk_keys, List.mem_map]
  exact ⟨fun ⟨a, ha, e⟩ => by rw [← Sum.inr.inj e]; exact ha, fun h => ⟨l, h, rfl⟩⟩
theorem pk_nodup {ps : List (PySem.Str × Addr)} (h : (ps.map (·.1)).Nodup) : ((ps.map pk).map (·.1)).Nodup := by
  rw [pk_keys]
  exact List.pairwise_map.mpr (h.imp fun n e => n (Sum.inr.inj e))
theorem MvInv.put {H H' : Hp} {D q : Addr} {ps : List (PySem.Str × Addr)} {l : PySem.Str} (h : MvInv H H' D ps fun _ => []) (hl : l ∉ ps.map (·.1)) (hq : H' q = none) :
    MvInv H (upd (upd H' q (.lst [])) D (.dK (putK (ps.map pk) (.inr l) (.ref q)))) D (ps ++ [(l, q)]) fun _ => [] := by
  have nqD : q ≠ D := fun z => by
    rw [z, h.d] at hq
    cases hq
  refine ⟨?_, ?_, ?_, same_mut (h.same.trans (same_new hq)) h.hD, h.hD⟩
  · rw [putK_new (fun c => hl (pk_mem.mp c)), List.map_append]
    exact upd_same
  · rw [List.map_append, List.nodup_append]
    refine ⟨h.nd, by simp, fun a ha b hb e => ?_⟩
    obtain ⟨p, hp, rfl⟩ := List.mem_map.mp ha
    rw [List.map_cons, List.map_nil, List.mem_singleton] at hb
    obtain ⟨_, _, us, e1, _⟩ := h.each p hp
    rw [e, hb] at e1
    rw [hq] at e1
    cases e1
  · intro p hp
    rcases List.mem_append.mp hp with hp | hp
    · obtain ⟨a, b, us, e1, e2⟩ := h.each p hp
      refine ⟨a, b, us, ?_, ?_⟩
      · rw [upd_ne b, upd_ne (ne_of_none e1 hq)]
        exact e1
      · cases e2
        exact .nil
    · rw [List.mem_singleton.mp hp]
      exact ⟨h.same.free hq, nqD, [], (upd_ne nqD).trans upd_same, .nil⟩
theorem MvInv.add {H H' : Hp} {D q t : Addr} {ps : List (PySem.Str × Addr)} {l : PySem.Str} {c : PySem.Str → List Mv} {us : List V} {m : Mv} (h : MvInv H H' D ps c) (hk : (ps.map (·.1)).Nodup) (hp : (l, q) ∈ ps) (hq : H' q = some (.lst us)) (hus : MvS H' us (c l)) (ht : H' t = none) :
    MvInv H (upd (upd H' t (.tup (mvV m))) q (.lst (us ++ [.ref t]))) D ps fun l' => if l' = l then c l ++ [m] else c l' := by
  obtain ⟨a, b, _⟩ := h.each _ hp
  have a : H q = none := a
  have b : q ≠ D := b
  have s1 : Same H' (upd H' t (.tup (mvV m))) := same_new ht
  have ntq : t ≠ q := fun z => by
    rw [z, hq] at ht
    cases ht
  have ext : ∀ {vs : List V} {mv : List Mv}, MvS H' vs mv → MvS (upd (upd H' t (.tup (mvV m))) q (.lst (us ++ [.ref t]))) vs mv := fun h => Paired.mapP h fun v x ⟨p, ev, e⟩ => ⟨p, ev, (upd_ne (ne_of e hq (by intro z; cases z))).trans (s1 _ _ e)⟩
  refine ⟨(upd_ne b.symm).trans (s1 _ _ h.d), h.nd, ?_, same_mut (h.same.trans s1) a, h.hD⟩
  intro p hp'
  obtain ⟨a', b', vs, e1, e2⟩ := h.each p hp'
  refine ⟨a', b', ?_⟩
  by_cases e : p.1 = l
  · have ep : p = (l, q) := by
      have inj : ∀ (qs : List (PySem.Str × Addr)), (qs.map (·.1)).Nodup → ∀ x ∈ qs, ∀ y ∈ qs, x.1 = y.1 → x = y := by
        intro qs
        induction qs with
        | nil => intro _ x hx; cases hx
        | cons z qs ih =>
          intro n x hx y hy e
          rw [List.map_cons] at n
          obtain ⟨n1, n2⟩ := List.nodup_cons.mp n
          rcases List.mem_cons.mp hx with hx | hx <;> rcases List.mem_cons.mp hy with hy | hy
          · rw [hx, hy]
          · exact absurd (List.mem_map.mpr ⟨y, hy, by rw [← e, hx]⟩) n1
          · exact absurd (List.mem_map.mpr ⟨x, hx, by rw [e, hy]⟩) n1
          · exact ih n2 x hx y hy e
      exact inj ps hk p hp' _ hp e
    subst ep
    refine ⟨us ++ [.ref t], upd_same, ?_⟩
    simp only [if_true]
    exact paired_snoc (ext hus) ⟨t, rfl, (upd_ne ntq).trans upd_same⟩
  · simp only [if_neg e]
    have npq : p.2 ≠ q := fun z => by
      have inj : ∀ (qs : List (PySem.Str × Addr)), (qs.map (·.2)).Nodup → ∀ x ∈ qs, ∀ y ∈ qs, x.2 = y.2 → x = y := by
        intro qs
        induction qs with
        | nil => intro _ x hx; cases hx
        | cons z qs ih =>
          intro n x hx y hy e
          rw [List.map_cons] at n
          obtain ⟨n1, n2⟩ := List.nodup_cons.mp n
          rcases List.mem_cons.mp hx with hx | hx <;> rcases List.mem_cons.mp hy with hy | hy
          · rw [hx, hy]
          · exact absurd (List.mem_map.mpr ⟨y, hy, by rw [← e, hx]⟩) n1
          · exact absurd (List.mem_map.mpr ⟨x, hx, by rw [e, hy]⟩) n1
          · exact ih n2 x hx y hy e
      have q1 := inj ps h.nd p hp' _ hp z
      exact e (by rw [q1])
    refine ⟨vs, ?_, ext e2⟩
    rw [upd_ne npq]
    exact s1 _ _ e1
theorem MvInv.val {H H' : Hp} {D : Addr} {ps : List (PySem.Str × Addr)} {c : PySem.Str → List Mv} (h : MvInv H H' D ps c) (hk : (ps.map (·.1)).Nodup) {l : PySem.Str} (hl : l ∈ ps.map (·.1)) :
    ∃ q us, (l, q) ∈ ps ∧ valV (ps.map pk) (.inr l) = some (.ref q) ∧ H' q = some (.lst us) ∧ MvS H' us (c l) := by
  obtain ⟨p, hp, rfl⟩ := List.mem_map.mp hl
  obtain ⟨_, _, us, e1, e2⟩ := h.each p hp
  exact ⟨p.2, us, hp, valV_mem (pk_nodup hk) (List.mem_map.mpr ⟨p, hp, rfl⟩), e1, e2⟩
end Bz

namespace Bz
open PySem PySem.Spec PyProof.Rows L2
/-! ### a law's own helpers -/
def sameKeys (x y : Arw) : Bool := decide (x.s = y.s) && (decide (x.l = y.l) && decide (x.t = y.t))
def dArw (x : Arw) : List PyData := [.str x.s, .str x.l, .str x.t]
theorem dp_any {K : PySem.W.Frag} {H : Hp} {a : Addr} {ds : List PyData} {xs : List V} (h : SqL K H a xs) (d : DpAll K H xs ds) : Dp K H (.ref a) (.list ds) := .lst h d
theorem dp_tups {K : PySem.W.Frag} {H : Hp} {us : List V} {xs : List Arw} (h : ArS H us xs) : DpAll K H us (xs.map fun x => .tuple [.str x.s, .str x.l, .str x.t, .int x.c]) := by
  induction h with
  | nil => exact .nil
  | cons a _ ih =>
    obtain ⟨q, rfl, hq⟩ := a
    exact .cons (.tup (SqT.of hq) (.cons (.str _) (.cons (.str _) (.cons (.str _) (.cons (.int _) .nil))))) ih
theorem dp_strs {K : PySem.W.Frag} {H : Hp} : ∀ ns : List PySem.Str, DpAll K H (ns.map V.str) (ns.map PyData.str)
  | [] => .nil
  | n :: ns => .cons (.str n) (dp_strs ns)
theorem sOk_of {z : PySem.Str} (h : ∀ c ∈ TL.tl z, Sg c) : PyData.strOk z = true := by
  unfold PyData.strOk
  rw [all_tl, List.all_eq_true]
  exact fun c hc => decide_eq_true (by have := (h c hc).2; omega)
theorem shaped_nil : SeqAt.shaped (.list []) = true := by decide +kernel
theorem shaped_of2 {ds : List PyData} (h : ∀ d ∈ ds, d.canLay0 = true ∧ d.depth ≤ 1) (b : Bool) : SeqAt.shaped (if b then .list ds else .tuple ds) = true := by
  have q : PyData.canLayAll0 ds = true ∧ PyData.depthAll ds ≤ 1 := by
    induction ds with
    | nil => exact ⟨by simp only [PyData.canLayAll0], by simp only [PyData.depthAll]; omega⟩
    | cons d ds ih =>
      obtain ⟨h1, h2⟩ := h d (List.mem_cons_self ..)
      obtain ⟨h3, h4⟩ := ih fun z hz => h z (List.mem_cons_of_mem _ hz)
      simp only [PyData.canLayAll0, PyData.depthAll, h1, h3]
      exact ⟨rfl, by omega⟩
  unfold SeqAt.shaped
  cases b
  · simp only [Bool.false_eq_true, if_false, PyData.canLay0, PyData.depth, q.1, Bool.true_and, decide_eq_true_eq]
    omega
  · simp only [if_true, PyData.canLay0, PyData.depth, q.1, Bool.true_and, decide_eq_true_eq]
    omega
theorem lay_arw {x : Arw} (h1 : ∀ c ∈ TL.tl x.s, Sg c) (h2 : ∀ c ∈ TL.tl x.l, Sg c) (h3 : ∀ c ∈ TL.tl x.t, Sg c) : (PyData.tuple [.str x.s, .str x.l, .str x.t, .int x.c]).canLay0 = true ∧ (PyData.tuple [.str x.s, .str x.l, .str x.t, .int x.c]).depth ≤ 1 := by
  simp only [PyData.canLay0, PyData.canLayAll0, PyData.depth, PyData.depthAll, sOk_of h1, sOk_of h2, sOk_of h3]
  exact ⟨rfl, by decide⟩
theorem shaped_arws {xs : List Arw} (h : ∀ x ∈ xs, x.Ok) : SeqAt.shaped (.list (xs.map fun x => PyData.tuple [.str x.s, .str x.l, .str x.t, .int x.c])) = true := by
  refine shaped_of2 (b := true) fun d hd => ?_
  obtain ⟨x, hx, rfl⟩ := List.mem_map.mp hd
  have o := h x hx
  exact lay_arw o.s.2.2 o.l.2 o.t.2.2
theorem shaped_ints (xs : List Int) : SeqAt.shaped (.list (xs.map PyData.int)) = true := by
  refine shaped_of2 (b := true) fun d hd => ?_
  obtain ⟨x, hx, rfl⟩ := List.mem_map.mp hd
  exact ⟨by simp only [PyData.canLay0], by simp only [PyData.depth]; omega⟩
theorem shaped_t3 {a b c : PySem.Str} (h1 : ∀ x ∈ TL.tl a, Sg x) (h2 : ∀ x ∈ TL.tl b, Sg x) (h3 : ∀ x ∈ TL.tl c, Sg x) : SeqAt.shaped (.tuple [.str a, .str b, .str c]) = true := by
  refine shaped_of2 (b := false) fun d hd => ?_
  simp only [List.mem_cons, List.not_mem_nil, or_false] at hd
  rcases hd with rfl | rfl | rfl
  · exact ⟨by simp only [PyData.canLay0]; exact sOk_of h1, by simp only [PyData.depth]; omega⟩
  · exact ⟨by simp only [PyData.canLay0]; exact sOk_of h2, by simp only [PyData.depth]; omega⟩
  · exact ⟨by simp only [PyData.canLay0]; exact sOk_of h3, by simp only [PyData.depth]; omega⟩
theorem shaped_t2 {a b : PySem.Str} (h1 : ∀ x ∈ TL.tl a, Sg x) (h2 : ∀ x ∈ TL.tl b, Sg x) : SeqAt.shaped (.tuple [.str a, .str b]) = true := by
  refine shaped_of2 (b := false) fun d hd => ?_
  simp only [List.mem_cons, List.not_mem_nil, or_false] at hd
  rcases hd with rfl | rfl
  · exact ⟨by simp only [PyData.canLay0]; exact sOk_of h1, by simp only [PyData.depth]; omega⟩
  · exact ⟨by simp only [PyData.canLay0]; exact sOk_of h2, by simp only [PyData.depth]; omega⟩
theorem dp_t3 {K : PySem.W.Frag} {H : Hp} {q : Addr} {a b c : PySem.Str} (h : H q = some (.tup [.str a, .str b, .str c])) : Dp K H (.ref q) (.tuple [.str a, .str b, .str c]) := .tup (SqT.of h) (.cons (.str _) (.cons (.str _) (.cons (.str _) .nil)))
theorem dp_t2 {K : PySem.W.Frag} {H : Hp} {q : Addr} {a b : PySem.Str} (h : H q = some (.tup [.str a, .str b])) : Dp K H (.ref q) (.tuple [.str a, .str b]) := .tup (SqT.of h) (.cons (.str _) (.cons (.str _) .nil))
theorem eqv_nil (ds : List PyData) : PyData.eqv (.list ds) (.list []) = ds.isEmpty := by
  cases ds <;> simp [PyData.eqv, PyData.eqvAll]
theorem eqv_strs (a b c a' b' c' : PySem.Str) : PyData.eqv (.tuple [.str a, .str b, .str c]) (.tuple [.str a', .str b', .str c']) = (decide (a = a') && (decide (b = b') && decide (c = c'))) := by
  simp [PyData.eqv, PyData.eqvAll, PySem.W.beq_decide]
theorem eqv_strs2 (a b a' b' : PySem.Str) : PyData.eqv (.tuple [.str a, .str b]) (.tuple [.str a', .str b']) = (decide (a = a') && decide (b = b')) := by
  simp [PyData.eqv, PyData.eqvAll, PySem.W.beq_decide]
/-- at m what a law made: arrows, starts, ends -/
structure MadeL (K : PySem.W.Frag) (H : Hp) (m a b e : Addr) (us : List V) (xs : List Arw) (ss es : List PySem.Str) : Prop where
  m : H m = some (.tup [.ref a, .ref b, .ref e])
  a : SqL K H a us
  as : ArS H us xs
  b : SqL K H b (ss.map V.str)
  e : SqL K H e (es.map V.str)
theorem MadeL.same {K : PySem.W.Frag} {H H' : Hp} {m a b e : Addr} {us : List V} {xs : List Arw} {ss es : List PySem.Str} (h : MadeL K H m a b e us xs ss es) (s : Same H H') : MadeL K H' m a b e us xs ss es :=
  ⟨s _ _ h.m, s.seq h.a, h.as.same s, s.seq h.b, s.seq h.e⟩
theorem rising_pw : ∀ (r : List PySem.Str) (p : PySem.Str), risingS p r = true → (p :: r).Pairwise fun a b => ¬ b.cps.toList < a.cps.toList
  | [], p, _ => List.pairwise_singleton ..
  | x :: r, p, h => by
    have h' : (!ltCps x.cps.toList p.cps.toList && risingS x r) = true := h
    rw [ltCps_eq, Bool.and_eq_true, Bool.not_eq_true', decide_eq_false_iff_not] at h'
    have ih := rising_pw r x h'.2
    refine List.pairwise_cons.mpr ⟨fun y hy => ?_, ih⟩
    rcases List.mem_cons.mp hy with rfl | hy
    · exact h'.1
    · have q := (List.pairwise_cons.mp ih).1 y hy
      exact List.not_lt.mpr (List.le_trans (List.not_lt.mp h'.1) (List.not_lt.mp q))
theorem sortedS_pw {l : List PySem.Str} (h : sortedS l = true) : l.Pairwise fun a b => ¬ b.cps.toList < a.cps.toList := by
  cases l with
  | nil => exact .nil
  | cons x r => exact rising_pw r x h
theorem asc_step {ys : List PySem.Str} {i : Nat} {u z : PySem.Str} (h : sortedS ys = true) (hu : ys[i]? = some u) (hz : z ∈ ys.take i) (ne : z ≠ u) : z.cps.toList < u.cps.toList := by
  have q := (sortedS_pw h).sublist (List.take_sublist (i + 1) ys)
  have tk : ys.take (i + 1) = ys.take i ++ [u] := by rw [List.take_add_one, hu]; rfl
  rw [tk] at q
  have r := (List.pairwise_append.mp q).2.2 z hz u (List.mem_singleton.mpr rfl)
  exact Classical.byContradiction fun c => ne (ext_tl (List.le_antisymm (List.not_lt.mp r) (List.not_lt.mp c)))
theorem asc_snoc {os : List PySem.Str} {u : PySem.Str} (h : Asc os) (c : ∀ z ∈ os, z.cps.toList < u.cps.toList) : Asc (os ++ [u]) := by
  refine List.pairwise_append.mpr ⟨h, List.pairwise_singleton .., fun a ha b hb => ?_⟩
  rw [List.mem_singleton.mp hb]
  exact c a ha
theorem asc_nd {os : List PySem.Str} (h : Asc os) : os.Nodup := h.imp fun {x y} q e => by
  rw [e] at q
  exact List.lt_irrefl _ q
theorem k3_ne {ys : List Arw} (h : ys.Pairwise fun x y => lexK x.k3 y.k3 = true) : ys.Pairwise fun x y => x.k3 ≠ y.k3 := h.imp fun {x y} h e => by
  rw [e, lexK_irr] at h
  cases h
def spUnlike (K : PySem.W.Frag) : Sp := fun vs H Q _ => ∃ (a : Addr) (ns : List PySem.Str), vs = [.ref a] ∧ SqL K H a (ns.map V.str) ∧ ns.length < 64 ∧
  ∀ (q : Addr) (os : List PySem.Str) (H' : Hp), H q = none → H' q = some (.lst (os.map V.str)) → (∀ k, k ∈ os ↔ k ∈ ns) → (os.length ≤ ns.length ∧ Asc os) → Same H H' → Q (.ref q) H'
def spRows (K : PySem.W.Frag) : Sp := fun vs H Q _ => ∃ (a : Addr) (ls : List PySem.Str) (n : Nat), vs = [.ref a, .int (n : Int)] ∧ SqL K H a (ls.map V.str) ∧ (∀ l ∈ ls, Lt l) ∧ ls.length ≤ 7 ∧ n ≤ 4 ∧
  ∀ (q : Addr) (rs : List PySem.Str) (H' : Hp), H q = none → H' q = some (.lst (rs.map V.str)) → (∀ r ∈ rs, r.length ≤ n ∧ ∀ c ∈ TL.tl r, Sg c) → rs.length ≤ 20000 → Same H H' → Q (.ref q) H'
def spLetters (K : PySem.W.Frag) : Sp := fun vs H Q _ => ∃ (m a b e : Addr) (us : List V) (xs : List Arw) (ss es : List PySem.Str), vs = [.ref m] ∧ MadeL K H m a b e us xs ss es ∧ xs.length ≤ 60 ∧
  ∀ (q : Addr) (os : List PySem.Str) (H' : Hp), H q = none → H' q = some (.lst (os.map V.str)) → (∀ k, k ∈ os ↔ ∃ x ∈ xs, k = x.l) → (os.length ≤ xs.length ∧ os.Nodup) → Same H H' → Q (.ref q) H'
def spStatesL (K : PySem.W.Frag) : Sp := fun vs H Q _ => ∃ (m a b e : Addr) (us : List V) (xs : List Arw) (ss es : List PySem.Str), vs = [.ref m] ∧ MadeL K H m a b e us xs ss es ∧ H b = some (.lst (ss.map V.str)) ∧ H e = some (.lst (es.map V.str)) ∧ ss.length + es.length + 2 * xs.length < 64 ∧
  ∀ (q : Addr) (os : List PySem.Str) (H' : Hp), H q = none → H' q = some (.lst (os.map V.str)) → (∀ k, k ∈ os ↔ (k ∈ ss ∨ k ∈ es ∨ ∃ x ∈ xs, k = x.s ∨ k = x.t)) → Same H H' → Q (.ref q) H'
abbrev SmS (H : Hp) (us : List V) (ps : List (PySem.Str × Int)) : Prop := Paired (fun v p => ∃ q, v = V.ref q ∧ H q = some (.tup [.str p.1, .int p.2])) us ps
theorem SmS.same {H H' : Hp} {us : List V} {ps : List (PySem.Str × Int)} (h : SmS H us ps) (e : Same H H') : SmS H' us ps := Paired.mapP h fun v m ⟨q, ev, hq⟩ => ⟨q, ev, e _ _ hq⟩
/-- .. none of them at D -/
def SmD (D : Addr) (H : Hp) (us : List V) (ps : List (PySem.Str × Int)) : Prop := Paired (fun v p => ∃ q, v = V.ref q ∧ q ≠ D ∧ H q = some (.tup [.str p.1, .int p.2])) us ps
theorem SmD.upd {D : Addr} {H : Hp} {us : List V} {ps : List (PySem.Str × Int)} {o : HO} (h : SmD D H us ps) : SmD D (L2.upd H D o) us ps := Paired.mapP h fun v p ⟨r, e, n, hr⟩ => ⟨r, e, n, (upd_ne n).trans hr⟩
theorem SmD.keep {D : Addr} {H H' : Hp} {us : List V} {ps : List (PySem.Str × Int)} (h : SmD D H us ps) (s : Same H H') : SmD D H' us ps := Paired.mapP h fun v p ⟨r, e, n, hr⟩ => ⟨r, e, n, s _ _ hr⟩
theorem SmD.snoc {D g : Addr} {H : Hp} {us : List V} {ps : List (PySem.Str × Int)} {p : PySem.Str × Int} (h : SmD D H us ps) (n : g ≠ D) (e : H g = some (.tup [.str p.1, .int p.2])) : SmD D H (us ++ [.ref g]) (ps ++ [p]) := paired_snoc h ⟨g, rfl, n, e⟩
theorem paired_app {as bs : List V} {cs ds : List (PySem.Str × Int)} {R : V → PySem.Str × Int → Prop} (h1 : Paired R as cs) (h2 : Paired R bs ds) : Paired R (as ++ bs) (cs ++ ds) := by
  induction h1 with
  | nil => exact h2
  | cons a _ ih => exact .cons a ih
def spSums (K : PySem.W.Frag) : Sp := fun vs H Q _ => ∃ (a : Addr) (us : List V) (xs : List Arw) (row first : PySem.Str), vs = [.ref a, .str row, .str first] ∧ SqL K H a us ∧ ArS H us xs ∧ (∀ x ∈ xs, x.Ok) ∧ xs.length ≤ 7 ∧ row.length ≤ 4 ∧ (∀ c ∈ TL.tl row, Sg c) ∧ (∀ c ∈ TL.tl first, Sg c) ∧
  ∀ (q : Addr) (ws : List V) (H' : Hp), H q = none → H' q = some (.lst ws) → SmS H' ws (sums xs (sgnL row) [(first, 0)]) → ws.length ≤ 2401 → Same H H' → Q (.ref q) H'
def spLeastL (K : PySem.W.Frag) : Sp := fun vs H Q _ => ∃ (m a b e s t : Addr) (us : List V) (xs : List Arw) (ss es gs fs : List PySem.Str) (row : PySem.Str), vs = [.ref m, .str row, .ref s, .ref t] ∧ MadeL K H m a b e us xs ss es ∧ (∀ x ∈ xs, x.Ok) ∧ xs.length ≤ 7 ∧ row.length ≤ 4 ∧ (∀ c ∈ TL.tl row, Sg c) ∧
  SqL K H s (gs.map V.str) ∧ SqL K H t (fs.map V.str) ∧ (∀ g ∈ gs, ∀ c ∈ TL.tl g, Sg c) ∧ gs.length ≤ 1000 ∧
  ∀ (o : Option Int) (H' : Hp), LeastO (fun n => ∃ q ∈ fs, Rch xs gs (sgnL row) q n) o → Same H H' → Q (optV o) H'
def spCheapL (K : PySem.W.Frag) : Sp := fun vs H Q _ => ∃ (a : Addr) (us : List V) (xs : List Arw), vs = [.ref a] ∧ SqL K H a us ∧ ArS H us xs ∧ (∀ x ∈ xs, x.Ok) ∧ xs.length ≤ 100 ∧ xs ≠ [] ∧
  ∀ (q : Addr) (ws : List V) (ys : List Arw) (H' : Hp), H q = none → H' q = some (.lst ws) → ArS H' ws ys → (∀ y ∈ ys, y ∈ xs) → ys.Pairwise (fun x y => lexK x.k3 y.k3 = true) → ys ≠ [] → ys.length ≤ xs.length → Same H H' → Q (.ref q) H'
end Bz

namespace Bz
open PySem PySem.Spec PyProof.Rows L2
theorem asc_nodup {os : List PySem.Str} (h : Asc os) : os.Nodup := h.imp fun {x y} q e => by
  rw [e] at q
  exact List.lt_irrefl _ q
theorem cheap_nodup {xs ys : List Arw} (h : CheapOf xs ys) : ys.Nodup := h.asc.imp fun {x y} q e => by
  rw [e, lexK_irr] at q
  cases q
theorem good_of {M : MachV} {xs : List Arw} {ss es : List PySem.Str} (h : MOf M xs ss es) (l1 : xs.length ≤ 100) (l2 : ss.length ≤ 1000) (l3 : es.length ≤ 1000) : MGood M := by
  have al := nodup_le (cheap_nodup h.ars) fun y hy => (h.ars.sub y hy).1
  refine ⟨asc_nodup h.lets.1, fun x hx => (h.lets.2 x.l).mpr ⟨x, hx, rfl⟩, by omega, ?_, ?_, ?_⟩
  · have q := nodup_le (ts := M.ars.map Arw.l) (asc_nodup h.lets.1) fun k hk => by
      obtain ⟨x, hx, e⟩ := (h.lets.2 k).mp hk
      exact List.mem_map.mpr ⟨x, hx, e.symm⟩
    rw [List.length_map] at q
    omega
  · have := nodup_le (asc_nodup h.sts.1) fun k hk => (h.sts.2 k).mp hk
    omega
  · have := nodup_le (asc_nodup h.ens.1) fun k hk => (h.ens.2 k).mp hk
    omega
theorem k3_inj {ys : List Arw} (h : ys.Pairwise fun x y => x.k3 ≠ y.k3) {x y : Arw} (hx : x ∈ ys) (hy : y ∈ ys) (e : x.k3 = y.k3) : x = y := by
  induction ys with
  | nil => cases hx
  | cons z ys ih =>
    obtain ⟨h1, h2⟩ := List.pairwise_cons.mp h
    rcases List.mem_cons.mp hx with hx | hx <;> rcases List.mem_cons.mp hy with hy | hy
    · rw [hx, hy]
    · exact absurd (by rw [← hx]; exact e) (h1 y hy)
    · exact absurd (by rw [← hy]; exact e.symm) (h1 x hx)
    · exact ih h2 hx hy
theorem ars_iff {M : MachV} {xs : List Arw} {ss es : List PySem.Str} (h : MOf M xs ss es) (hp : xs.Pairwise fun x y => x.k3 ≠ y.k3) (x : Arw) : x ∈ M.ars ↔ x ∈ xs := by
  refine ⟨fun hx => (h.ars.sub x hx).1, fun hx => ?_⟩
  obtain ⟨y, hy, e⟩ := h.ars.all x hx
  rw [← k3_inj hp (h.ars.sub y hy).1 hx e]
  exact hy
theorem opt_scal (o : Option Int) : scal (optV o) (optV o) = true := by cases o <;> rfl
theorem sgAll_z : ("z" : PySem.Str).length = 1 ∧ ∀ c ∈ TL.tl ("z" : PySem.Str), Sg c := by
  have q : TL.tl ("z" : PySem.Str) = [122] := by decide +kernel
  refine ⟨by decide +kernel, fun c hc => ?_⟩
  rw [q] at hc
  rw [List.mem_singleton.mp hc]
  exact ⟨by omega, by omega⟩
theorem sgAll_app {a b : PySem.Str} (ha : ∀ c ∈ TL.tl a, Sg c) (hb : ∀ c ∈ TL.tl b, Sg c) : ∀ c ∈ TL.tl (a ++ b), Sg c := by
  intro c hc
  rw [TL.tl_append] at hc
  exact (List.mem_append.mp hc).elim (ha c) (hb c)
theorem len_app (a b : PySem.Str) : (a ++ b).length = a.length + b.length := by rw [len_tl, TL.tl_append, List.length_append, ← len_tl, ← len_tl]
theorem abcd_lt : ∀ l ∈ (["a", "b", "c", "d"] : List PySem.Str), Lt l := by
  have q : ((["a", "b", "c", "d"] : List PySem.Str).all fun l => ltB l) = true := by decide +kernel
  intro l hl
  have z := List.all_eq_true.mp q l hl
  unfold ltB onlyB at z
  simp only [Bool.and_eq_true, decide_eq_true_eq, List.all_eq_true] at z
  exact ⟨z.1, fun c hc => z.2.2 c hc⟩
theorem ok_of {xs : List Arw} {ss es : List PySem.Str} {m n : Int} (h : MOk xs ss es m n) : ∀ x ∈ xs, x.Ok := by
  obtain ⟨ns, h1, _, _, h2, _⟩ := h.nms
  intro x hx
  have c := h.cost x hx
  exact ⟨h1 _ (h2 x hx).1, abcd_lt _ (h.lets x hx), h1 _ (h2 x hx).2, c.1, by omega⟩
def spLaw (K : PySem.W.Frag) : Sp := fun vs H Q _ => ∃ (a : Addr) (ns : List Int), vs = [.ref a] ∧ SqL K H a (ns.map V.int) ∧ ∀ H', Q (.bl true) H'
end Bz

namespace Bz
open PySem PySem.Spec PyProof.Rows L2
/-! ### a text backwards, a list backwards -/
def revS (z : PySem.Str) : PySem.Str := ⟨z.cps.toList.reverse.toArray⟩
theorem revS_len (z : PySem.Str) : (revS z).length = z.length := by
  rw [len_tl, len_tl]
  show z.cps.toList.reverse.toArray.toList.length = z.cps.toList.length
  simp
theorem tl_revS (z : PySem.Str) : TL.tl (revS z) = (TL.tl z).reverse := by
  show z.cps.toList.reverse.toArray.toList = z.cps.toList.reverse
  simp
theorem sgnL_revS (z : PySem.Str) : sgnL (revS z) = (sgnL z).reverse := by
  unfold sgnL revS
  rw [← List.map_reverse]
theorem picked_back (z : PySem.Str) : ((Builtin.Str.strSliceIndices none none (-1) z.length).filterMap (z.cps[·]?)).toArray = z.cps.toList.reverse.toArray := by
  rw [picked_rev]
  show (((List.range z.cps.size).map fun k => z.cps.size - 1 - k).filterMap (z.cps[·]?)).toArray = _
  rw [PySem.W.krv_range, List.filterMap_reverse, PySem.W.krv_all]
def tRevS (te : TE) : TE := fun σ H Q => te σ H fun x H1 => ∃ z : PySem.Str, x = .str z ∧ z.length ≤ sizeLine ∧ Q (.str (revS z)) H1
section
variable {X : Cx}
theorem pe_revS {e : Expr} {te : TE} {k : Nat} {p1 p2 p3 pos : Pos} (he : PE X e te) : PE X (.Subscript e (.Slice none none (some (.UnaryOp .USub (.Constant (.int 1) k p1) p2)) p3) pos) (tRevS te) := by
  refine ⟨fun pins s σ H Q I h => ?_⟩
  refine Subscript_ (thn (he.run pins s σ H _ I h) fun v s1 ⟨x, H1, I1, r1, z, ex, hz, q⟩ => ?_)
  subst ex
  obtain ⟨t, rfl⟩ := r1
  have hst : PO X (some (.UnaryOp .USub (.Constant (.int 1) k p1) p2)) (tPart (tUn (rU fun i => .int (-i)) (tC (.int 1)))) := po_some (pe_un un_neg pe_int)
  refine wpAny_Slice (thn (po_none.run pins s1 σ H1 (fun o H2 => o = none ∧ H2 = H1) I1 ⟨rfl, rfl⟩) fun v1 s2 ⟨l, H2, I2, pl, a1, a2⟩ => ?_)
  subst a1 a2
  refine thn (po_none.run pins s2 σ H2 (fun o H3 => o = none ∧ H3 = H2) I2 ⟨rfl, rfl⟩) fun v2 s3 ⟨u, H3, I3, pu, b1, b2⟩ => ?_
  subst b1 b2
  refine thn (hst.run pins s3 σ H3 (fun o H4 => o = some (-1) ∧ H4 = H3) I3 ⟨1, rfl, -1, rfl, rfl, rfl⟩) fun v3 s4 ⟨o, H4, I4, ps, c1, c2⟩ => ?_
  subst c1 c2
  have I5 : Inv X pins σ H4 { s4 with heap := s4.heap.push { cls := .type "slice", data := .fields #[v1, v2, v3] } } := I4.kept (t' := s4.toks) fun b ob q => Heap.get?_push_of_some _ q
  obtain ⟨l1, e1, f1⟩ := IsPart.raw pl
  obtain ⟨l2, e2, f2⟩ := IsPart.raw pu
  obtain ⟨l3, e3, f3⟩ := IsPart.raw ps
  subst e1 e2 e3
  have g1 : l1 = none := by
    cases l1 with
    | none => rfl
    | some x => cases f1
  have g2 : l2 = none := by
    cases l2 with
    | none => rfl
    | some x => cases f2
  obtain ⟨w, g3⟩ : ∃ w : Tok, l3 = some (-1, w) := by
    cases l3 with
    | none => cases f3
    | some x =>
      obtain ⟨i, w⟩ := x
      have : i = -1 := Option.some.inj f3
      subst this
      exact ⟨w, rfl⟩
  subst g1 g2 g3
  show wpAny (model X.prog X.w) X.A (subscriptTail e (.Slice none none (some (.UnaryOp .USub (.Constant (.int 1) k p1) p2)) p3) (.str z t) (.ref s4.heap.objs.size)) (EP X pins σ Q) X.xe _
  refine tail_any (ops := [.str z t, .ref s4.heap.objs.size]) (typeIs_str _ _ _) (PySem.F.slot_str_getitem.lookup) ?_ (by with_unfolding_all rfl)
  refine wpAny_getItem_str_slice (l := none) (u := none) (st := some (-1, w)) ⟨_, Heap.get?_push_size _ rfl, rfl, rfl⟩ rfl ?_
  show Made.post (if ((-1 : Int) == 1 && (Builtin.Str.strSliceIndices none none (-1) z.length).length == z.length) = true then Made.val (.str z t)
    else Made.str ⟨((Builtin.Str.strSliceIndices none none (-1) z.length).filterMap (z.cps[·]?)).toArray⟩) (EP X pins σ Q) _
  rw [if_neg (by simp), picked_back]
  exact ⟨by rw [show (⟨z.cps.toList.reverse.toArray⟩ : PySem.Str).length = z.length from revS_len z]; exact hz, .str (revS z), H4, I5.tok _, ⟨_, rfl⟩, q⟩
theorem kpe_revL (K : PySem.W.Frag) {e : Expr} {te : TE} {k : Nat} {p1 p2 p3 pos : Pos} (he : PE X e te) (h : X.K = K := by rfl) : PE X (.Subscript e (.Slice none none (some (.UnaryOp .USub (.Constant (.int 1) k p1) p2)) p3) pos) (L2.tRevL K te) := by
  subst h
  exact L2.pe_revL he
end
end Bz

namespace Bz
open PySem PySem.Spec PyProof.Rows L2
/-! ### min of a list of tuples of an int and a text -/
abbrev PIS := Int × PySem.Str
def kP (p : PIS) : List Ky := [.inl p.1, .inr p.2]
theorem ltP_ok (p q : PIS) : PySem.W.DatumOrd.lt p q = lexK (kP p) (kP q) := by
  show (if p.1 = q.1 then decide (p.2.cps.toList < q.2.cps.toList) else decide (p.1 < q.1)) = _
  unfold kP
  simp only [lexK]
  by_cases h : p.1 = q.1
  · rw [if_pos h, if_pos (by rw [h])]
    by_cases h2 : p.2 = q.2
    · rw [if_pos (by rw [h2]), h2]
      exact decide_eq_false (List.lt_irrefl _)
    · rw [if_neg (fun z => h2 (Sum.inr.inj z))]
      rfl
  · rw [if_neg h, if_neg (fun z => h (Sum.inl.inj z))]
    rfl
theorem lexK_ntr {a b c : List Ky} (h1 : lexK b a = false) (h2 : lexK c b = false) : lexK c a = false := by
  cases h : lexK c a with
  | false => rfl
  | true =>
    by_cases e1 : b = a
    · rw [e1, h] at h2
      cases h2
    · have q1 := lexK_tot h1 e1
      have q2 := lexK_trans h q1
      rw [q2] at h2
      cases h2
theorem minP_is (y : PIS) (ys : List PIS) : PySem.W.minOf y ys ∈ y :: ys ∧ ∀ z ∈ y :: ys, lexK (kP z) (kP (PySem.W.minOf y ys)) = false := by
  unfold PySem.W.minOf
  induction ys generalizing y with
  | nil => exact ⟨List.mem_cons_self .., fun z hz => by rw [List.mem_singleton.mp hz]; exact lexK_irr _⟩
  | cons x ys ih =>
    rw [List.foldl_cons, ltP_ok]
    obtain ⟨h1, h2⟩ := ih (if lexK (kP x) (kP y) = true then x else y)
    have h0 := h2 _ (List.mem_cons_self ..)
    have h3 := fun z hz => h2 z (List.mem_cons_of_mem _ hz)
    generalize List.foldl (fun a y => if PySem.W.DatumOrd.lt y a = true then y else a) (if lexK (kP x) (kP y) = true then x else y) ys = r at h0 h1 h3 ⊢
    constructor
    · rcases List.mem_cons.mp h1 with h1 | h1
      · rw [h1]
        split <;> simp
      · simp [h1]
    · have h4 : lexK (kP x) (kP r) = false ∧ lexK (kP y) (kP r) = false := by
        cases c : lexK (kP x) (kP y) with
        | true =>
          rw [c] at h0
          simp only [if_true] at h0
          exact ⟨h0, lexK_ntr h0 (lexK_asym c)⟩
        | false =>
          rw [c] at h0
          simp only [Bool.false_eq_true, if_false] at h0
          exact ⟨lexK_ntr h0 c, h0⟩
      intro z hz
      rcases List.mem_cons.mp hz with rfl | hz
      · exact h4.2
      · rcases List.mem_cons.mp hz with rfl | hz
        · exact h4.1
        · exact h3 z hz
theorem dp_pairs {K : PySem.W.Frag} {H : Hp} {us : List V} {ps : List PIS} (h : Paired (fun v p => ∃ q, v = V.ref q ∧ H q = some (.tup [.int p.1, .str p.2])) us ps) : DpAll K H us (ps.map fun p => .tuple [.int p.1, .str p.2]) := by
  induction h with
  | nil => exact .nil
  | cons a _ ih =>
    obtain ⟨q, rfl, hq⟩ := a
    exact .cons (.tup (SqT.of hq) (.cons (.int _) (.cons (.str _) .nil))) ih
theorem reads_i {h : Heap} {i j : Int} {t : Tok} {as : List Addr} (r : Reads h (.int i t) (.int j) as) : j = i := by
  cases r
  rfl
theorem reads_s {h : Heap} {i j : PySem.Str} {t : Tok} {as : List Addr} (r : Reads h (.str i t) (.str j) as) : j = i := by
  cases r
  rfl
def rMinP (K : PySem.W.Frag) : List V → Hp → VK → Prop := fun vs H Q => ∃ (l : Addr) (us : List V) (ps : List PIS), vs = [V.ref l] ∧ SqL K H l us ∧ Paired (fun v p => ∃ q, v = V.ref q ∧ H q = some (.tup [.int p.1, .str p.2])) us ps ∧ ps ≠ [] ∧
  ∀ (q : Addr) (p : PIS), p ∈ ps → H q = some (.tup [.int p.1, .str p.2]) → (∀ r ∈ ps, lexK (kP r) (kP p) = false) → Q (.ref q) H
theorem cr_minP {X : Cx} (hc : X.calm = true) (hu : X.A.units + 64 < cLine) : CallR X (.builtin "min") (rMinP X.K) := by
  intro pins s σ H vs us Q I r h
  obtain ⟨l, xs, ps, rfl, hs, hp, hne, q⟩ := h
  obtain ⟨its, rv, pl, hz⟩ := I.list hs
  rw [Vals.ref1 r]
  obtain ⟨as, ra⟩ := Dp.readsAll I _ _ _ (dp_pairs (K := X.K) hp) rv
  cases ps with
  | nil => exact absurd rfl hne
  | cons y ys =>
    refine PySem.W.min_list_datum (α := PIS) (x := y) (xs := ys) (I.ok.hd hc) pl.isList ⟨as, by
      have e : its.toArray.toList = its := by simp
      rw [e]
      exact ra⟩ (by show X.A.units + 1 + 1 < cLine; omega) (fun i v h' tk hi hh k => ?_)
    have hi' : its[i]? = some v := by simpa using hi
    have hlt : i < xs.length := by
      have := (List.getElem?_eq_some_iff.mp hi').1
      have := rv.length
      omega
    have hw : xs[i]? = some xs[i] := List.getElem?_eq_getElem hlt
    obtain ⟨p, hp1, a, ea, ha⟩ := paired_get hp hw
    obtain ⟨u, hu1, hu2⟩ := rv.get hw
    rw [ea] at hu2
    obtain rfl : u = Value.ref a := hu2
    rw [hi'] at hu1
    obtain rfl : v = Value.ref a := Option.some.inj hu1
    obtain ⟨its2, r2, ht, _⟩ := I.tuple (SqT.of (K := X.K) ha)
    have em : PySem.W.minOf y ys = p := by
      obtain ⟨bs, rd⟩ := hh
      have rd' : Reads h' (.ref a) (.tuple [.int (PySem.W.minOf y ys).1, .str (PySem.W.minOf y ys).2]) bs := rd
      obtain ⟨o, ho, hc', n, hd'⟩ := ht
      have ho' := k _ _ ho
      cases rd' with
      | tuple g1 g2 g3 g4 =>
        rw [ho'] at g1
        cases g1
        rw [hd'] at g3
        cases g3
        cases r2 with
        | cons x1 x2 =>
          cases x2 with
          | cons x3 x4 =>
            cases x4
            obtain ⟨t1, rfl⟩ := x1
            obtain ⟨t2, rfl⟩ := x3
            obtain ⟨cs, g5⟩ : ∃ cs, ReadsAll h' [Value.int p.1 t1, Value.str p.2 t2] [.int (PySem.W.minOf y ys).1, .str (PySem.W.minOf y ys).2] cs := ⟨_, by simpa using g4⟩
            cases g5 with
            | cons z1 z2 =>
              cases z2 with
              | cons z3 z4 =>
                have e1 : (PySem.W.minOf y ys).1 = p.1 := reads_i z1
                have e2 : (PySem.W.minOf y ys).2 = p.2 := reads_s z3
                exact Prod.ext e1 e2
    obtain ⟨m1, m2⟩ := minP_is y ys
    rw [em] at m1 m2
    exact ⟨.ref a, H, I.kept k, rfl, q a p m1 ha m2⟩
theorem kminP (K : PySem.W.Frag) {X : Cx} (hc : X.calm = true) (hu : X.A.units + 64 < cLine) (h : X.K = K := by rfl) : CallR X (.builtin "min") (rMinP K) := by subst h; exact cr_minP hc hu
end Bz

namespace Bz
open PySem PySem.Spec PyProof.Rows L2
/-! ### enumerate(text) -/
def ItE (z : PySem.Str) : It :=
  ⟨fun i _ => i < z.cps.size, fun i H v H' => ∃ q c, v = .ref q ∧ H q = none ∧ H' = upd H q (.tup [.int (i : Int), .str ⟨#[c]⟩]) ∧ z.cps[i]? = some c, fun i _ => i = z.cps.size⟩
theorem sIt_at {h h' : Heap} {it : Addr} {T : String} {z : PySem.Str} {t : Tok} {i : Nat} (e : h.IsStrIter it T z t i) (k : ∀ o, h.get? it = some o → h'.get? it = some o) : h'.IsStrIter it T z t i :=
  let ⟨o, a, b, c⟩ := e
  ⟨o, k o a, b, c⟩
theorem turn_enumT {P : Program} {w : World} {K : PySem.W.Frag} {elts : List Expr} {kk : Nat} {tp : Pos} (z : PySem.Str) (t : Tok) (en it : Addr) :
    Turn P w K (.Tuple elts kk tp) (ItE z) [en, it] en (fun i h => (∃ old, IsEnum h en it ((i : Nat) : Int) old) ∧ h.IsStrIter it (strIterType z) z t i ∧ en ≠ it) where
  mem := List.mem_cons_self ..
  obj := fun i h st b hb => by
    obtain ⟨⟨old, he⟩, ⟨o, ho, hc, hd⟩, _⟩ := st
    rcases List.mem_cons.mp hb with e | e
    · rw [e]
      exact ⟨_, he, fun v q => nomatch q⟩
    · rw [List.mem_singleton.mp e]
      exact ⟨o, ho, fun v q => by rw [hd] at q; cases q⟩
  keep := fun i h h' st k => ⟨⟨st.1.choose, k en (by simp) _ st.1.choose_spec⟩, sIt_at st.2.1 fun o q => k it (by simp) o q, st.2.2⟩
  item := by
    intro X hP hw hK hc i pins s σ H E I hf st hg
    subst hP hw hK
    obtain ⟨⟨old, he⟩, hit, hne⟩ := st
    have hg' : i < z.cps.size := hg
    have hen : en < s.heap.objs.size := Heap.lt_size he
    have hil : it < s.heap.objs.size := by
      obtain ⟨_, q, _⟩ := hit
      exact Heap.lt_size q
    have D := Draws.text (prog := X.prog) (w := X.w) (A := X.A.in1) (I.ok.hd hc) it z t
    refine wpAny_pyNext_enum_itemC D he (i := i) hit hg' hne (by simp [hne]) fun x h' tk hx ho hst hT hsz hk => ?_
    obtain ⟨c, u, hcu, rfl⟩ := hx
    refine ⟨_, rfl, wpAny_letOwnedTupleGo_enum (s := { s with heap := h', toks := tk + 1 }) ho fun h'' he'' sb => ?_⟩
    have hT2 : h''.get? s.heap.objs.size = some { cls := .type "tuple", data := .seq #[.int (i : Int) tk, .str ⟨#[c]⟩ u] } := (sb.2 _ (Nat.ne_of_gt hen)).trans hT
    have new : ObjOk X.prog X.w (upd H s.heap.objs.size (.tup [.int (i : Int), .str ⟨#[c]⟩])) h'' s.heap.objs.size (.tup [.int (i : Int), .str ⟨#[c]⟩]) :=
      ⟨Nat.le_of_ble_eq_true rfl, [.int (i : Int) tk, .str ⟨#[c]⟩ u], .cons ⟨_, rfl⟩ (.cons ⟨_, rfl⟩ .nil), ⟨_, hT2, rfl, _, rfl⟩⟩
    have I1 : Inv X pins σ (upd H s.heap.objs.size (.tup [.int (i : Int), .str ⟨#[c]⟩])) { s with heap := h'', toks := tk + 1 } :=
      I.turnedNew (ch := [en, it]) (fun b ob hb q => (sb.2 b (fun e => hb (by simp [e]))).trans (hk b ob (fun e => hb (by simp [e])) (fun e => hb (by simp [e])) q)) hf (Nat.le_refl _) new
    refine ⟨.ref s.heap.objs.size, _, I1, rfl, ⟨_, c, rfl, I.hok.fresh (Nat.le_refl _), rfl, hcu⟩, ⟨⟨.str ⟨#[c]⟩ u, ?_⟩, sIt_at hst fun o q => (sb.2 it (Ne.symm hne)).trans q, hne⟩, fun b hb => ?_⟩
    · have e1 : ((i + 1 : Nat) : Int) = (i : Int) + 1 := by omega
      rw [e1]
      exact he''
    · have hb' : b < s.heap.objs.size := by
        rcases List.mem_cons.mp hb with e | e
        · rw [e]; exact hen
        · rw [List.mem_singleton.mp e]; exact hil
      rw [upd_ne (Nat.ne_of_lt hb')]
      exact (hf b hb).1
  done := by
    intro X hP hw hK hc i pins s σ H E I hf st hg
    subst hP hw hK
    obtain ⟨⟨old, he⟩, hit, hne⟩ := st
    have hg' : i = z.cps.size := hg
    obtain ⟨f0, f1, f2, f3, f4, f5⟩ := hf it (by simp)
    have D := Draws.text (prog := X.prog) (w := X.w) (A := X.A.in1) (I.ok.hd hc) it z t
    exact wpAny_pyNext_enum_endD D he (by rw [← hg']; exact hit) fun h' eb => ⟨rfl, I.turned (t' := s.toks) (fun b o hb q => eb b o hb q) f0 f1 f3 f4 f5⟩
  self := fun A i s Q E st h => wpAny_pyIter_enum st.1.choose_spec h
def iEnumT (ta : TA) : TI := fun σ H R => ta σ H fun vs H1 => ∃ z, vs = [V.str z] ∧ R (ItE z) H1
theorem pi_enumT {X : Cx} {e : Expr} {ta : TA} {p pos tpos : Pos} {elts : List Expr} {kk : Nat} (hg : Gl X "enumerate") (hm : X.mg "enumerate" = none) (ha : PA X [e] ta) (hs : starEach [e] X.env = [(false, eval e X.env)] := by rfl) :
    PI X (.Tuple elts kk tpos) (.Call (.Name "enumerate" p) [e] [] pos) (iEnumT ta) := by
  refine ⟨fun pins s σ H R I h => ?_⟩
  refine Call_ (ld_blt I hg hm boot_enumerate (PyProof.Rows.callWith_type1 (thn (ha.run pos pins s σ H (fun vs H1 => ∃ z, vs = [V.str z] ∧ R (ItE z) H1) I h) fun us s1 ⟨vs, H1, I1, r1, z, ez, q⟩ => ?_) hs rfl))
  subst ez
  obtain ⟨u, rfl, ru⟩ := vals1 r1
  obtain ⟨t, rfl⟩ := ru
  refine call_enumerate_str fun h' he hit hsz hk => wpAny_pyIter_enum he ?_
  have I2 : Inv X pins σ H1 { s1 with heap := h' } := I1.kept (t' := s1.toks) hk
  refine ⟨s1.heap.objs.size + 1, [s1.heap.objs.size + 1, s1.heap.objs.size], _, _, H1, rfl, I2, turn_enumT z t (s1.heap.objs.size + 1) s1.heap.objs.size, ⟨⟨.none, he⟩, hit, Nat.succ_ne_self _⟩, fun b hb => ?_, q⟩
  have hle : s1.heap.objs.size ≤ b := by
    rcases List.mem_cons.mp hb with e | e
    · rw [e]
      exact Nat.le_succ _
    · rw [List.mem_singleton.mp e]
      exact Nat.le_refl _
  exact I1.fpOk hle (I1.hok.fresh hle)
theorem walk_enumT {z : PySem.Str} : Walk (ItE z) z.cps.size (fun _ => True) (fun i H v H' => ∃ q c, v = .ref q ∧ H q = none ∧ H' = upd H q (.tup [.int (i : Int), .str ⟨#[c]⟩]) ∧ z.cps[i]? = some c) :=
  ⟨fun _ _ hi _ => hi, fun _ _ => rfl, fun _ _ _ _ _ _ y => y⟩
end Bz

namespace Bz
open PySem PySem.Spec PyProof.Rows L2
/-! ### prices of what comes behind -/
def swapA (x : Arw) : Arw := ⟨x.t, x.l, x.s, x.c⟩
abbrev swapM (m : Mv) : Mv := (m.2.1, m.1, m.2.2)
theorem swap_moves (xs : List Arw) (l : PySem.Str) : (((xs.filter fun x => decide (x.l = l)).map mvOf).map swapM) = ((xs.map swapA).filter fun x => decide (x.l = l)).map mvOf := by
  rw [List.filter_map, List.map_map, List.map_map]
  rfl
def MvD (D : Addr) (H : Hp) (us : List V) (ms : List Mv) : Prop := Paired (fun v m => ∃ q, v = V.ref q ∧ q ≠ D ∧ H q = some (.tup (mvV m))) us ms
theorem MvD.upd {D : Addr} {H : Hp} {us : List V} {ms : List Mv} {o : HO} (h : MvD D H us ms) : MvD D (L2.upd H D o) us ms := Paired.mapP h fun v p ⟨r, e, n, hr⟩ => ⟨r, e, n, (upd_ne n).trans hr⟩
theorem MvD.keep {D : Addr} {H H' : Hp} {us : List V} {ms : List Mv} (h : MvD D H us ms) (s : Same H H') : MvD D H' us ms := Paired.mapP h fun v p ⟨r, e, n, hr⟩ => ⟨r, e, n, s _ _ hr⟩
theorem MvD.snoc {D g : Addr} {H : Hp} {us : List V} {ms : List Mv} {m : Mv} (h : MvD D H us ms) (n : g ≠ D) (e : H g = some (.tup (mvV m))) : MvD D H (us ++ [.ref g]) (ms ++ [m]) := paired_snoc h ⟨g, rfl, n, e⟩
theorem MvD.mv {D : Addr} {H : Hp} {us : List V} {ms : List Mv} (h : MvD D H us ms) : MvS H us ms := Paired.mapP h fun v p ⟨r, e, _, hr⟩ => ⟨r, e, hr⟩
abbrev AhS (H : Hp) (ds : List V) (gs : List (PySem.Str → Option Int)) : Prop := Paired (fun v g => ∃ d kvs, v = V.ref d ∧ H d = some (.dK kvs) ∧ Holds1 kvs g) ds gs
theorem AhS.same {H H' : Hp} {ds : List V} {gs : List (PySem.Str → Option Int)} (h : AhS H ds gs) (e : Same H H') : AhS H' ds gs := Paired.mapP h fun v g ⟨d, kvs, ev, hd, hg⟩ => ⟨d, kvs, ev, e _ _ hd, hg⟩
theorem paired_rev {α β : Type} {R : α → β → Prop} {as : List α} {bs : List β} (h : Paired R as bs) : Paired R as.reverse bs.reverse := by
  induction h with
  | nil => exact .nil
  | cons a _ ih =>
    rw [List.reverse_cons, List.reverse_cons]
    exact paired_snoc ih a
/-- the i-th of gs: the least from each state behind the i-th letter -/
def AhOk (M : MachV) (ls : List PySem.Str) (gs : List (PySem.Str → Option Int)) : Prop := ∀ i, i ≤ ls.length → ∃ g, gs[i]? = some g ∧ ∀ q, LeastO (Rch (M.ars.map swapA) M.ens (ls.drop i).reverse q) (g q)
def spAhead (K : PySem.W.Frag) (C : Addr) : Sp := fun vs H Q _ => ∃ (m : Addr) (M : MachV) (row : PySem.Str), vs = [.ref m, .str row] ∧ IsMach C H m M ∧ MGood M ∧ row.length ≤ 5000 ∧
  ∀ (q : Addr) (ds : List V) (gs : List (PySem.Str → Option Int)) (H' : Hp), H q = none → H' q = some (.lst ds) → AhS H' ds gs → ds.length = (sgnL row).length + 1 → AhOk M (sgnL row) gs → Same H H' → Q (.ref q) H'
end Bz

namespace Bz
open PySem PySem.Spec PyProof.Rows L2
/-! ### the next state of a best run -/
def PsD (D : Addr) (H : Hp) (us : List V) (ps : List PIS) : Prop := Paired (fun v p => ∃ q, v = V.ref q ∧ q ≠ D ∧ H q = some (.tup [.int p.1, .str p.2])) us ps
theorem PsD.upd {D : Addr} {H : Hp} {us : List V} {ps : List PIS} {o : HO} (h : PsD D H us ps) : PsD D (L2.upd H D o) us ps := Paired.mapP h fun v p ⟨r, e, n, hr⟩ => ⟨r, e, n, (upd_ne n).trans hr⟩
theorem PsD.keep {D : Addr} {H H' : Hp} {us : List V} {ps : List PIS} (h : PsD D H us ps) (s : Same H H') : PsD D H' us ps := Paired.mapP h fun v p ⟨r, e, n, hr⟩ => ⟨r, e, n, s _ _ hr⟩
theorem PsD.snoc {D g : Addr} {H : Hp} {us : List V} {ps : List PIS} {p : PIS} (h : PsD D H us ps) (n : g ≠ D) (e : H g = some (.tup [.int p.1, .str p.2])) : PsD D H (us ++ [.ref g]) (ps ++ [p]) := paired_snoc h ⟨g, rfl, n, e⟩
theorem PsD.ps {D : Addr} {H : Hp} {us : List V} {ps : List PIS} (h : PsD D H us ps) : Paired (fun v p => ∃ q, v = V.ref q ∧ H q = some (.tup [.int p.1, .str p.2])) us ps := Paired.mapP h fun v p ⟨r, e, _, hr⟩ => ⟨r, e, hr⟩
/-- what a step from s costs with all behind it, and where it goes -/
def stepOf (s : PySem.Str) (g : PySem.Str → Option Int) (m : Mv) : Option PIS := if m.1 = s then (g m.2.1).map fun n => (m.2.2 + n, m.2.1) else none
def spNext (K : PySem.W.Frag) : Sp := fun vs H Q _ => ∃ (a d : Addr) (s : PySem.Str) (us : List V) (mv : List Mv) (kvs : List (Ky × V)) (g : PySem.Str → Option Int), vs = [.ref a, .str s, .ref d] ∧ SqL K H a us ∧ MvS H us mv ∧ mv.length ≤ 1000 ∧ H d = some (.dK kvs) ∧ Holds1 kvs g ∧
  mv.filterMap (stepOf s g) ≠ [] ∧ ∀ (p : PIS) (H' : Hp), p ∈ mv.filterMap (stepOf s g) → (∀ r ∈ mv.filterMap (stepOf s g), lexK (kP r) (kP p) = false) → Same H H' → Q (.str p.2) H'
end Bz

namespace Bz
open PySem PySem.Spec PyProof.Rows L2
/-! ### runs, read from their first letter on -/
def RunS (xs : List Arw) : List PySem.Str → PySem.Str → PySem.Str → Int → Prop
  | [], a, b, n => a = b ∧ n = 0
  | l :: ls, a, b, n => ∃ x ∈ xs, x.s = a ∧ x.l = l ∧ ∃ m, RunS xs ls x.t b m ∧ n = x.c + m
theorem run_snoc {xs : List Arw} {l : PySem.Str} : ∀ (ls : List PySem.Str) (a b : PySem.Str) (n : Int), RunS xs (ls ++ [l]) a b n ↔ ∃ x ∈ xs, x.l = l ∧ x.t = b ∧ ∃ m, RunS xs ls a x.s m ∧ n = m + x.c
  | [], a, b, n => by
    simp only [List.nil_append, RunS]
    constructor
    · rintro ⟨x, hx, rfl, rfl, m, ⟨rfl, rfl⟩, rfl⟩
      exact ⟨x, hx, rfl, rfl, 0, ⟨rfl, rfl⟩, by omega⟩
    · rintro ⟨x, hx, rfl, rfl, m, ⟨rfl, rfl⟩, rfl⟩
      exact ⟨x, hx, rfl, rfl, 0, ⟨rfl, rfl⟩, by omega⟩
  | k :: ls, a, b, n => by
    simp only [List.cons_append, RunS]
    constructor
    · rintro ⟨x, hx, rfl, rfl, m, h, rfl⟩
      obtain ⟨y, hy, e1, e2, m', h', rfl⟩ := (run_snoc ls _ _ _).mp h
      exact ⟨y, hy, e1, e2, x.c + m', ⟨x, hx, rfl, rfl, m', h', rfl⟩, by omega⟩
    · rintro ⟨y, hy, e1, e2, m, ⟨x, hx, rfl, rfl, m', h', rfl⟩, rfl⟩
      exact ⟨x, hx, rfl, rfl, m' + y.c, (run_snoc ls _ _ _).mpr ⟨y, hy, e1, e2, m', h', rfl⟩, by omega⟩
theorem rch_run {xs : List Arw} {ss : List PySem.Str} : ∀ (k : Nat) (ls : List PySem.Str) (q : PySem.Str) (n : Int), ls.length = k → (Rch xs ss ls q n ↔ ∃ a ∈ ss, RunS xs ls a q n)
  | 0, ls, q, n, e => by
    obtain rfl : ls = [] := List.length_eq_zero_iff.mp e
    rw [reach_nil]
    exact ⟨fun ⟨h, e⟩ => ⟨q, h, rfl, e⟩, fun ⟨a, h, e, z⟩ => ⟨by rw [← e]; exact h, z⟩⟩
  | k + 1, ls, q, n, e => by
    have ne : ls ≠ [] := by
      rintro rfl
      cases e
    obtain ⟨r, l, rfl⟩ : ∃ r l, ls = r ++ [l] := ⟨ls.dropLast, ls.getLast ne, (List.dropLast_concat_getLast ne).symm⟩
    rw [List.length_append, List.length_singleton] at e
    have ih := fun q n => rch_run (xs := xs) (ss := ss) k r q n (by omega)
    rw [reach_step]
    constructor
    · rintro ⟨x, hx, a, b, m, c, d⟩
      obtain ⟨s, hs, h⟩ := (ih _ _).mp c
      exact ⟨s, hs, (run_snoc _ _ _ _).mpr ⟨x, hx, a, b, m, h, d⟩⟩
    · rintro ⟨s, hs, h⟩
      obtain ⟨x, hx, a, b, m, c, d⟩ := (run_snoc _ _ _ _).mp h
      exact ⟨x, hx, a, b, m, (ih _ _).mpr ⟨s, hs, c⟩, d⟩
theorem swap_swap (x : Arw) : swapA (swapA x) = x := rfl
theorem run_rev {xs : List Arw} : ∀ (ls : List PySem.Str) (a b : PySem.Str) (n : Int), RunS xs ls a b n ↔ RunS (xs.map swapA) ls.reverse b a n
  | [], a, b, n => by
    simp only [List.reverse_nil, RunS]
    exact ⟨fun ⟨h, e⟩ => ⟨h.symm, e⟩, fun ⟨h, e⟩ => ⟨h.symm, e⟩⟩
  | l :: ls, a, b, n => by
    rw [List.reverse_cons, run_snoc]
    simp only [RunS]
    constructor
    · rintro ⟨x, hx, rfl, rfl, m, h, rfl⟩
      exact ⟨swapA x, List.mem_map.mpr ⟨x, hx, rfl⟩, rfl, rfl, m, (run_rev ls _ _ _).mp h, by show x.c + m = m + x.c; omega⟩
    · rintro ⟨y, hy, e1, e2, m, h, rfl⟩
      obtain ⟨x, hx, rfl⟩ := List.mem_map.mp hy
      exact ⟨x, hx, e2, e1, m, (run_rev ls _ _ _).mpr h, by show m + x.c = x.c + m; omega⟩
theorem run_app {xs : List Arw} {ms : List PySem.Str} : ∀ (ls : List PySem.Str) (a b : PySem.Str) (n : Int), RunS xs (ls ++ ms) a b n ↔ ∃ c i j, RunS xs ls a c i ∧ RunS xs ms c b j ∧ n = i + j
  | [], a, b, n => by
    simp only [List.nil_append, RunS]
    exact ⟨fun h => ⟨a, 0, n, ⟨rfl, rfl⟩, h, by omega⟩, fun ⟨c, i, j, ⟨e, z⟩, h, en⟩ => by
      have : n = j := by omega
      rw [this, e]
      exact h⟩
  | l :: ls, a, b, n => by
    simp only [List.cons_append, RunS]
    constructor
    · rintro ⟨x, hx, rfl, rfl, m, h, rfl⟩
      obtain ⟨c, i, j, h1, h2, rfl⟩ := (run_app ls _ _ _).mp h
      exact ⟨c, x.c + i, j, ⟨x, hx, rfl, rfl, i, h1, rfl⟩, h2, by omega⟩
    · rintro ⟨c, i, j, ⟨x, hx, rfl, rfl, m, h1, rfl⟩, h2, rfl⟩
      exact ⟨x, hx, rfl, rfl, m + j, (run_app ls _ _ _).mpr ⟨c, m, j, h1, h2, rfl⟩, by omega⟩
theorem run_sub {xs ys : List Arw} (s : ∀ x ∈ xs, x ∈ ys) : ∀ (ls : List PySem.Str) (a b : PySem.Str) (n : Int), RunS xs ls a b n → RunS ys ls a b n
  | [], _, _, _, h => h
  | l :: ls, a, b, n, h => by
    obtain ⟨x, hx, e1, e2, m, h, e⟩ := h
    exact ⟨x, s x hx, e1, e2, m, run_sub s ls _ _ _ h, e⟩
theorem run_cheap {xs ys : List Arw} (c : CheapOf xs ys) : ∀ (ls : List PySem.Str) (a b : PySem.Str) (n : Int), RunS xs ls a b n → ∃ m, m ≤ n ∧ RunS ys ls a b m
  | [], _, _, n, h => ⟨n, Int.le_refl _, h⟩
  | l :: ls, a, b, n, h => by
    obtain ⟨x, hx, e1, e2, m, h, e⟩ := h
    obtain ⟨k, hk, hr⟩ := run_cheap c ls _ _ _ h
    obtain ⟨y, hy, ek⟩ := c.all x hx
    obtain ⟨f1, f2, f3⟩ := Arw.k3_eq ek
    have := (c.sub y hy).2 x hx ek.symm
    exact ⟨y.c + k, by omega, y, hy, f1.trans e1, f2.trans e2, k, by rw [f3]; exact hr, rfl⟩
/-- a least of two that reach below each other -/
theorem LeastO.both {P R : Int → Prop} (h1 : ∀ n, P n → ∃ m, m ≤ n ∧ R m) (h2 : ∀ n, R n → ∃ m, m ≤ n ∧ P m) {o : Option Int} (k : LeastO P o) : LeastO R o := by
  cases o with
  | none =>
    intro n hn
    obtain ⟨m, _, hm⟩ := h2 n hn
    exact k m hm
  | some z =>
    obtain ⟨k1, k2⟩ := k
    obtain ⟨m, hm, rm⟩ := h1 z k1
    obtain ⟨j, hj, pj⟩ := h2 m rm
    have := k2 j pj
    have e : m = z := by omega
    subst e
    refine ⟨rm, fun n hn => ?_⟩
    obtain ⟨i, hi, pi⟩ := h2 n hn
    have := k2 i pi
    omega
/-- the price of the letters ls with these arrows, starts and ends -/
def LPr (xs : List Arw) (ss es ls : List PySem.Str) (o : Option Int) : Prop := LeastO (fun n => ∃ s ∈ ss, ∃ e ∈ es, RunS xs ls s e n) o
theorem LPr.uniq {xs : List Arw} {ss es ls : List PySem.Str} {a b : Option Int} (ha : LPr xs ss es ls a) (hb : LPr xs ss es ls b) : a = b := LeastO.uniq ha hb
theorem LPr.cheap {xs ys : List Arw} {ss es ts gs ls : List PySem.Str} (c : CheapOf xs ys) (hs : ∀ k, k ∈ ts ↔ k ∈ ss) (he : ∀ k, k ∈ gs ↔ k ∈ es) {o : Option Int} : LPr ys ts gs ls o ↔ LPr xs ss es ls o := by
  have up : ∀ n, (∃ s ∈ ts, ∃ e ∈ gs, RunS ys ls s e n) → ∃ m, m ≤ n ∧ ∃ s ∈ ss, ∃ e ∈ es, RunS xs ls s e m := fun n ⟨s, h1, e, h2, r⟩ =>
    ⟨n, Int.le_refl _, s, (hs s).mp h1, e, (he e).mp h2, run_sub (fun y hy => (c.sub y hy).1) _ _ _ _ r⟩
  have dn : ∀ n, (∃ s ∈ ss, ∃ e ∈ es, RunS xs ls s e n) → ∃ m, m ≤ n ∧ ∃ s ∈ ts, ∃ e ∈ gs, RunS ys ls s e m := fun n ⟨s, h1, e, h2, r⟩ => by
    obtain ⟨m, hm, r'⟩ := run_cheap c _ _ _ _ r
    exact ⟨m, hm, s, (hs s).mpr h1, e, (he e).mpr h2, r'⟩
  exact ⟨LeastO.both up dn, LeastO.both dn up⟩
theorem LPr.turn {xs : List Arw} {ss es ls : List PySem.Str} {o : Option Int} : LPr (xs.map swapA) es ss ls.reverse o ↔ LPr xs ss es ls o := by
  have h : ∀ n, (∃ s ∈ es, ∃ e ∈ ss, RunS (xs.map swapA) ls.reverse s e n) ↔ (∃ s ∈ ss, ∃ e ∈ es, RunS xs ls s e n) := fun n =>
    ⟨fun ⟨s, h1, e, h2, r⟩ => ⟨e, h2, s, h1, (run_rev _ _ _ _).mpr r⟩, fun ⟨s, h1, e, h2, r⟩ => ⟨e, h2, s, h1, (run_rev _ _ _ _).mp r⟩⟩
  exact ⟨LeastO.iff h, LeastO.iff fun n => (h n).symm⟩
theorem LPr.of_rch {xs : List Arw} {ss es ls : List PySem.Str} {o : Option Int} : LeastO (fun n => ∃ e ∈ es, Rch xs ss ls e n) o ↔ LPr xs ss es ls o := by
  have h : ∀ n, (∃ e ∈ es, Rch xs ss ls e n) ↔ (∃ s ∈ ss, ∃ e ∈ es, RunS xs ls s e n) := fun n =>
    ⟨fun ⟨e, h1, r⟩ => by
      obtain ⟨s, hs, r⟩ := (rch_run _ _ _ _ rfl).mp r
      exact ⟨s, hs, e, h1, r⟩, fun ⟨s, h1, e, h2, r⟩ => ⟨e, h2, (rch_run _ _ _ _ rfl).mpr ⟨s, h1, r⟩⟩⟩
  exact ⟨LeastO.iff h, LeastO.iff fun n => (h n).symm⟩
/-- the price that a machine has is that of what it was made of -/
theorem MOf.price {M : MachV} {xs : List Arw} {ss es ls : List PySem.Str} (h : MOf M xs ss es) {o : Option Int} (k : LeastO (fun n => ∃ e ∈ M.ens, Rch M.ars M.sts ls e n) o) : LPr xs ss es ls o :=
  (LPr.cheap h.ars h.sts.2 h.ens.2).mp (LPr.of_rch.mp k)
theorem map_swap_swap (xs : List Arw) : (xs.map swapA).map swapA = xs := by
  rw [List.map_map]
  exact (List.map_congr_left fun x _ => rfl).trans (List.map_id _)
theorem MOf.turned {M N : MachV} {ls : List PySem.Str} (h : MOf N (M.ars.map swapA) M.ens M.sts) {o : Option Int} (k : LeastO (fun n => ∃ e ∈ N.ens, Rch N.ars N.sts ls.reverse e n) o) : LPr M.ars M.sts M.ens ls o := LPr.turn.mp (h.price k)
theorem MOf.turned' {M N : MachV} {ls : List PySem.Str} (h : MOf N (M.ars.map swapA) M.ens M.sts) {o : Option Int} (k : LeastO (fun n => ∃ e ∈ N.ens, Rch N.ars N.sts ls e n) o) : LPr M.ars M.sts M.ens ls.reverse o := by
  refine LPr.turn.mp ?_
  rw [List.reverse_reverse]
  exact h.price k
/-! ### a machine that machines can be made of -/
structure MFine (M : MachV) : Prop extends MGood M where
  ok : ∀ x ∈ M.ars, x.Ok
  l4 : M.ars.length ≤ 400
  nm : ∀ s ∈ M.sta, Nm s
  nl : M.sta.length ≤ 40
  st : ∀ s ∈ M.sts, s ∈ M.sta
  en : ∀ s ∈ M.ens, s ∈ M.sta
  ar : ∀ x ∈ M.ars, x.s ∈ M.sta ∧ x.t ∈ M.sta
theorem fine_of {M : MachV} {xs : List Arw} {ss es ns : List PySem.Str} (h : MOf M xs ss es) (ok : ∀ x ∈ xs, x.Ok) (xl : xs.length ≤ 400) (nm : ∀ s ∈ ns, Nm s) (nl : ns.length ≤ 40) (hs : ∀ s ∈ ss, s ∈ ns) (he : ∀ s ∈ es, s ∈ ns) (ha : ∀ x ∈ xs, x.s ∈ ns ∧ x.t ∈ ns) : MFine M := by
  have sub : ∀ k ∈ M.sta, k ∈ ns := fun k hk => by
    rcases (h.sta.2 k).mp hk with h1 | h1 | ⟨x, hx, h1 | h1⟩
    · exact hs k h1
    · exact he k h1
    · rw [h1]
      exact (ha x (h.ars.sub x hx).1).1
    · rw [h1]
      exact (ha x (h.ars.sub x hx).1).2
  have al := nodup_le (cheap_nodup h.ars) fun y hy => (h.ars.sub y hy).1
  have sl := nodup_le (asc_nodup h.sta.1) sub
  have s1 := nodup_le (asc_nodup h.sts.1) (ts := ns) fun k hk => hs k ((h.sts.2 k).mp hk)
  have s2 := nodup_le (asc_nodup h.ens.1) (ts := ns) fun k hk => he k ((h.ens.2 k).mp hk)
  have ll := nodup_le (ts := M.ars.map Arw.l) (asc_nodup h.lets.1) fun k hk => by
    obtain ⟨x, hx, e⟩ := (h.lets.2 k).mp hk
    exact List.mem_map.mpr ⟨x, hx, e.symm⟩
  rw [List.length_map] at ll
  refine { toMGood := ⟨asc_nodup h.lets.1, fun x hx => (h.lets.2 x.l).mpr ⟨x, hx, rfl⟩, by omega, by omega, by omega, by omega⟩, ok := fun x hx => ok x (h.ars.sub x hx).1, l4 := by omega, nm := fun s hs => nm s (sub s hs), nl := by omega, st := ?_, en := ?_, ar := ?_ }
  · exact fun s hs => (h.sta.2 s).mpr (.inl ((h.sts.2 s).mp hs))
  · exact fun s hs => (h.sta.2 s).mpr (.inr (.inl ((h.ens.2 s).mp hs)))
  · exact fun x hx => ⟨(h.sta.2 _).mpr (.inr (.inr ⟨x, hx, .inl rfl⟩)), (h.sta.2 _).mpr (.inr (.inr ⟨x, hx, .inr rfl⟩))⟩
theorem swap_ok {x : Arw} (h : x.Ok) : (swapA x).Ok := ⟨h.t, h.l, h.s, h.c0, h.c1⟩
theorem MFine.turn {M N : MachV} (h : MFine M) (k : MOf N (M.ars.map swapA) M.ens M.sts) : MFine N := by
  refine fine_of (ns := M.sta) k (fun x hx => ?_) (by rw [List.length_map]; exact h.l4) h.nm h.nl h.en h.st fun x hx => ?_
  · obtain ⟨y, hy, rfl⟩ := List.mem_map.mp hx
    exact swap_ok (h.ok y hy)
  · obtain ⟨y, hy, rfl⟩ := List.mem_map.mp hx
    exact ⟨(h.ar y hy).2, (h.ar y hy).1⟩
/-- a turned machine has no more states -/
theorem turn_sta {M N : MachV} (h : MFine M) (k : MOf N (M.ars.map swapA) M.ens M.sts) : N.sta.length ≤ M.sta.length := nodup_le (asc_nodup k.sta.1) fun s hs => by
  rcases (k.sta.2 s).mp hs with h1 | h1 | ⟨x, hx, e⟩
  · exact h.en s h1
  · exact h.st s h1
  · obtain ⟨y, hy, rfl⟩ := List.mem_map.mp (k.ars.sub x hx).1
    rcases e with e | e
    · rw [e]
      exact (h.ar y hy).2
    · rw [e]
      exact (h.ar y hy).1
/-- arrows, none of them at D -/
def ArD (D : Addr) (H : Hp) (us : List V) (xs : List Arw) : Prop := Paired (fun v x => ∃ q, v = V.ref q ∧ q ≠ D ∧ H q = some (.tup x.vals)) us xs
theorem ArD.upd {D : Addr} {H : Hp} {us : List V} {xs : List Arw} {o : HO} (h : ArD D H us xs) : ArD D (L2.upd H D o) us xs := Paired.mapP h fun v p ⟨r, e, n, hr⟩ => ⟨r, e, n, (upd_ne n).trans hr⟩
theorem ArD.keep {D : Addr} {H H' : Hp} {us : List V} {xs : List Arw} (h : ArD D H us xs) (s : Same H H') : ArD D H' us xs := Paired.mapP h fun v p ⟨r, e, n, hr⟩ => ⟨r, e, n, s _ _ hr⟩
theorem ArD.snoc {D g : Addr} {H : Hp} {us : List V} {xs : List Arw} {x : Arw} (h : ArD D H us xs) (n : g ≠ D) (e : H g = some (.tup x.vals)) : ArD D H (us ++ [.ref g]) (xs ++ [x]) := paired_snoc h ⟨g, rfl, n, e⟩
theorem ArD.ars {D : Addr} {H : Hp} {us : List V} {xs : List Arw} (h : ArD D H us xs) : ArS H us xs := Paired.mapP h fun v p ⟨r, e, _, hr⟩ => ⟨r, e, hr⟩
/-! ### what a law's and the program's defs promise -/
def spBackward (K : PySem.W.Frag) : Sp := fun vs H Q _ => ∃ (a : Addr) (us : List V) (xs : List Arw), vs = [.ref a] ∧ SqE K H a us ∧ ArS H us xs ∧ xs.length ≤ 100000 ∧
  ∀ (q : Addr) (ws : List V) (H' : Hp), H q = none → H' q = some (.lst ws) → ArS H' ws (xs.map swapA) → Same H H' → Q (.ref q) H'
def spTurned (C : Addr) : Sp := fun vs H Q _ => ∃ (m : Addr) (M : MachV), vs = [.ref m] ∧ IsMach C H m M ∧ MFine M ∧
  ∀ (q : Addr) (N : MachV) (H' : Hp), H q = none → IsMach C H' q N → MOf N (M.ars.map swapA) M.ens M.sts → Same H H' → Q (.ref q) H'
def spAheadL (K : PySem.W.Frag) : Sp := fun vs H Q _ => ∃ (a t : Addr) (us : List V) (xs : List Arw) (es : List PySem.Str) (row : PySem.Str), vs = [.ref a, .ref t, .str row] ∧ SqE K H a us ∧ ArS H us xs ∧ xs.length ≤ 1000 ∧ SqE K H t (es.map V.str) ∧ es.length ≤ 1000 ∧ row.length ≤ 5000 ∧
  ∀ (d : Addr) (kvs : List (Ky × V)) (f : PySem.Str → Option Int) (H' : Hp), H' d = some (.dK kvs) → Holds1 kvs f → (∀ q, LeastO (Rch (xs.map swapA) es (sgnL row).reverse q) (f q)) → Same H H' → Q (.ref d) H'
def spPriceL (K : PySem.W.Frag) : Sp := fun vs H Q _ => ∃ (m a b e : Addr) (us : List V) (xs : List Arw) (ss es : List PySem.Str) (row : PySem.Str), vs = [.ref m, .str row] ∧ MadeL K H m a b e us xs ss es ∧ xs.length ≤ 1000 ∧ ss.length ≤ 1000 ∧ es.length ≤ 1000 ∧ row.length ≤ 5000 ∧
  ∀ (o : Option Int) (H' : Hp), LPr xs ss es (sgnL row) o → Same H H' → Q (optV o) H'
def SgRow (n : Nat) (r : PySem.Str) : Prop := r.length ≤ n ∧ ∀ c ∈ TL.tl r, Sg c
def spRowL (K : PySem.W.Frag) : Sp := fun vs H Q _ => ∃ (p a : Addr) (ls : List PySem.Str) (n : Nat) (c : Nat), vs = [.ref p, .ref a, .int (n : Int)] ∧ Src H p c ∧ c ≤ 900000 ∧ SqL K H a (ls.map V.str) ∧ a ≠ p ∧ ls ≠ [] ∧ ls.length ≤ 1000 ∧ (∀ l ∈ ls, Lt l) ∧ n ≤ 10 ∧
  ∀ (r : PySem.Str) (H' : Hp), SgRow (3 * n) r → Go p (c + 40) H H' → Q (.str r) H'
def spWaves (K : PySem.W.Frag) : Sp := fun vs H Q _ => ∃ (p a : Addr) (ls : List PySem.Str) (n : Nat) (c : Nat), vs = [.ref p, .ref a, .int (n : Int)] ∧ Src H p c ∧ c ≤ 800000 ∧ SqL K H a (ls.map V.str) ∧ a ≠ p ∧ ls ≠ [] ∧ ls.length ≤ 1000 ∧ (∀ l ∈ ls, Lt l) ∧ 1 ≤ n ∧ n ≤ 4 ∧
  ∀ (r : PySem.Str) (H' : Hp), SgRow 120 r → Go p (c + 200) H H' → Q (.str r) H'
theorem tyX_new {K : PySem.W.Frag} {H H' : Hp} {t : Value} {x : V} (h : TyX K H x t) (e : Same H H') : TyX K H' x t := by
  cases h with
  | base h =>
    refine .base ?_
    cases h with
    | non => exact .non
    | bl x => exact .bl x
    | int i => exact .int i
    | str x => exact .str x
    | flt x => exact .flt x
    | lst h => exact .lst (e _ _ h)
    | frz h => exact .frz (e _ _ h)
    | tup h => exact .tup (e _ _ h)
    | dK h => exact .dK (e _ _ h)
    | dT h => exact .dT (e _ _ h)
    | ins h cl ha hn htk hm => exact .ins (e _ _ h) cl ha hn htk hm
  | byt b => exact .byt b
  | set h => exact .set (e _ _ h)
  | kList h c => exact .kList h c
  | kTuple h c => exact .kTuple h c
  | kDict h c => exact .kDict h c
  | fTuple h => exact .fTuple (e _ _ h)
  | fDict h => exact .fDict (e _ _ h)
/-- is it a list or a tuple? -/
def spIsList (K : PySem.W.Frag) : Sp := fun vs H Q _ => ∃ (v : V) (t : String), vs = [v] ∧ TyX K H v (.type t) ∧ t ∈ ["NoneType", "bool", "int", "str", "list", "tuple", "dict", "float", "set", "bytes"] ∧ ∀ H', Same H H' → Q (.bl (decide (t = "list") || decide (t = "tuple"))) H'
/-! ### a text some times over -/
def repS (z : PySem.Str) (n : Int) : PySem.Str := ⟨(List.replicate n.toNat z.cps).foldl (· ++ ·) #[]⟩
theorem fold_app (a : Array Nat) : ∀ (n : Nat) (b : Array Nat), ((List.replicate n a).foldl (· ++ ·) b).toList = b.toList ++ (List.replicate n a.toList).flatten
  | 0, b => by simp
  | n + 1, b => by
    rw [List.replicate_succ, List.foldl_cons, fold_app a n (b ++ a), List.replicate_succ, List.flatten_cons]
    simp
theorem repS_tl (z : PySem.Str) (n : Int) : TL.tl (repS z n) = (List.replicate n.toNat (TL.tl z)).flatten := by
  unfold TL.tl repS
  rw [fold_app]
  rfl
theorem repS_len (z : PySem.Str) (n : Int) : (repS z n).length = n.toNat * z.length := by
  rw [len_tl, repS_tl, List.length_flatten, List.map_replicate, List.sum_replicate_nat, ← len_tl]
theorem repS_sg {z : PySem.Str} {n : Int} (h : ∀ c ∈ TL.tl z, Sg c) : ∀ c ∈ TL.tl (repS z n), Sg c := by
  intro c hc
  rw [repS_tl] at hc
  obtain ⟨l, hl, hc⟩ := List.mem_flatten.mp hc
  rw [(List.mem_replicate.mp hl).2] at hc
  exact h c hc
theorem op_repTxt {X : Cx} : OpR X (binaryOp .Mult) (fun x y H Q => ∃ z n, x = .str z ∧ y = .int n ∧ 0 ≤ n ∧ n ≤ 1000000 ∧ z.length * n.toNat ≤ sizeLine ∧ Q (.str (repS z n)) H) := by
  intro pins s σ H x y v u Q I rx ry h
  obtain ⟨z, n, rfl, rfl, h0, h1, hz, q⟩ := h
  obtain ⟨t, rfl⟩ := rx
  obtain ⟨t', rfl⟩ := ry
  refine P.mul_str ?_ (fun hn _ => ?_) (fun _ _ => ?_) ?_
  · rw [decide_eq_false (by omega), decide_eq_false (by omega)]
    rfl
  · have e : sizeLine = 16777216 := by decide
    rw [e] at hz
    have hi : (z.length : Int) * n ≤ 16777216 := by
      have q : ((z.length * n.toNat : Nat) : Int) ≤ ((16777216 : Nat) : Int) := Int.ofNat_le.mpr hz
      rw [Int.natCast_mul, Int.toNat_of_nonneg h0] at q
      exact q
    have := (Int.le_ediv_iff_mul_le (a := (z.length : Int)) (b := 2 ^ 63 - 1) (c := n) (by omega)).mpr (by omega)
    omega
  · show decide (z.length * n.toNat > sizeLine) = false
    exact decide_eq_false (by omega)
  · have key : ∀ t2 : Tok, Q (.str (repS z n)) H := fun _ => q
    by_cases c1 : n < 1
    · rw [if_pos c1]
      refine ⟨by decide, .str (repS z n), H, I.tok _, ⟨s.toks, ?_⟩, q⟩
      have : n = 0 := by omega
      subst this
      rfl
    · rw [if_neg c1]
      by_cases c2 : (n == 1 || z.length == 0) = true
      · rw [if_pos c2]
        refine ⟨.str (repS z n), H, I, ⟨t, ?_⟩, q⟩
        have e : repS z n = z := by
          refine ext_tl ?_
          rw [repS_tl]
          simp only [Bool.or_eq_true, beq_iff_eq] at c2
          rcases c2 with rfl | c2
          · show (List.replicate 1 (TL.tl z)).flatten = _
            simp
          · have : TL.tl z = [] := List.length_eq_zero_iff.mp (by rw [← len_tl]; exact c2)
            rw [this]
            simp
        rw [e]
      · rw [if_neg c2]
        refine ⟨?_, .str (repS z n), H, I.tok _, ⟨s.toks, rfl⟩, q⟩
        show (repS z n).length ≤ sizeLine
        rw [repS_len, Nat.mul_comm]
        exact hz
/-! ### dict(..) of pairs -/
def rDictP (K : PySem.W.Frag) : List V → Hp → VK → Prop := fun xs H Q => ∃ (a : Addr) (ps : List Addr) (kvs : List (Ky × V)), xs = [.ref a] ∧ SqL K H a (ps.map V.ref) ∧ Paired (fun p kv => SqT K H p [kV kv.1, kv.2]) ps kvs ∧ ∀ p, H p = none → Q (.ref p) (upd H p (.dK (mergeK [] kvs)))
theorem kdictP (K : PySem.W.Frag) {X : Cx} (hc : X.calm = true) (h : X.K = K := by rfl) : CallR X (.type "dict") (rDictP K) := by subst h; exact call_dictP hc
theorem mergeK_snoc (kvs more : List (Ky × V)) (kv : Ky × V) : mergeK kvs (more ++ [kv]) = putK (mergeK kvs more) kv.1 kv.2 := by
  unfold mergeK
  rw [List.foldl_append]
  rfl
theorem holds_zero : ∀ (k : Nat) (es : List PySem.Str), es.length = k → Holds1 (mergeK [] (es.map fun e => ((.inr e : Ky), V.int 0))) (fun q => if q ∈ es then some 0 else none)
  | 0, es, e => by
    obtain rfl : es = [] := List.length_eq_zero_iff.mp e
    intro q
    simp [mergeK, valV]
  | k + 1, es, e => by
    have ne : es ≠ [] := by
      rintro rfl
      cases e
    obtain ⟨r, l, rfl⟩ : ∃ r l, es = r ++ [l] := ⟨es.dropLast, es.getLast ne, (List.dropLast_concat_getLast ne).symm⟩
    rw [List.length_append, List.length_singleton] at e
    have ih := holds_zero k r (by omega)
    intro q
    rw [List.map_append, List.map_singleton, mergeK_snoc, valV_put, ih q]
    by_cases c : q = l
    · subst c
      simp
    · rw [if_neg (fun z => c (Sum.inr.inj z))]
      simp [c]
theorem lpr_nil {xs : List Arw} {es : List PySem.Str} (q : PySem.Str) : LeastO (Rch xs es [] q) (if q ∈ es then some 0 else none) := by
  by_cases c : q ∈ es
  · rw [if_pos c]
    exact ⟨reach_nil.mpr ⟨c, rfl⟩, fun n hn => by rw [(reach_nil.mp hn).2]; exact Int.le_refl _⟩
  · rw [if_neg c]
    exact fun n hn => c (reach_nil.mp hn).1
theorem paired_zero {K : PySem.W.Frag} {D : Addr} {H : Hp} {ps : List Addr} {es : List PySem.Str} (h : Paired (fun p e => p ≠ D ∧ H p = some (.tup [.str e, .int 0])) ps es) : Paired (fun p (kv : Ky × V) => SqT K H p [kV kv.1, kv.2]) ps (es.map fun e => ((.inr e : Ky), V.int 0)) := by
  induction h with
  | nil => exact .nil
  | cons z _ ih => exact .cons (SqT.of z.2) ih
theorem sIx_min {n d k : Nat} : HT.sIx n d (some (k : Int)) = min k n := by
  unfold HT.sIx
  simp only
  split <;> omega
theorem tl_cutN (z : PySem.Str) (k : Nat) : TL.tl (cutS z none (some (k : Int))) = (TL.tl z).take k := by
  have e1 : HT.sIx z.length 0 none = 0 := rfl
  have e2 : HT.sIx z.length z.length (some (k : Int)) = min k z.length := sIx_min
  unfold cutS
  show (List.take (HT.sIx z.length z.length (some (k : Int)) - HT.sIx z.length 0 none) (List.drop (HT.sIx z.length 0 none) z.cps.toList)).toArray.toList = _
  rw [e1, e2]
  show List.take (min k z.length - 0) (List.drop 0 z.cps.toList) = List.take k z.cps.toList
  have el : z.length = z.cps.toList.length := len_tl z
  rw [List.drop_zero, Nat.sub_zero, el]
  by_cases c : k ≤ z.cps.toList.length
  · rw [Nat.min_eq_left c]
  · rw [Nat.min_eq_right (by omega), List.take_of_length_le (Nat.le_refl _), List.take_of_length_le (by omega)]
theorem SgRow.cut {z : PySem.Str} {n : Nat} (h : SgRow n z) (k : Nat) : SgRow k (cutS z none (some (k : Int))) := by
  refine ⟨?_, fun c hc => ?_⟩
  · rw [len_tl, tl_cutN, List.length_take]
    omega
  · rw [tl_cutN] at hc
    exact h.2 c (List.mem_of_mem_take hc)
theorem SgRow.app {a b : PySem.Str} {n m : Nat} (ha : SgRow n a) (hb : SgRow m b) : SgRow (n + m) (a ++ b) := ⟨by rw [len_app]; have := ha.1; have := hb.1; omega, sgAll_app ha.2 hb.2⟩
theorem SgRow.mono {a : PySem.Str} {n m : Nat} (ha : SgRow n a) (h : n ≤ m) : SgRow m a := ⟨Nat.le_trans ha.1 h, ha.2⟩
theorem SgRow.rep {a : PySem.Str} {n k : Nat} {i : Int} (ha : SgRow n a) (h : i.toNat ≤ k) : SgRow (k * n) (repS a i) := ⟨by rw [repS_len]; exact Nat.mul_le_mul h ha.1, repS_sg ha.2⟩
theorem SgRow.nil : SgRow 0 "" := ⟨by decide +kernel, fun c hc => by
  have z : TL.tl ("" : PySem.Str) = [] := by decide +kernel
  rw [z] at hc
  cases hc⟩
theorem SgRow.lt {l : PySem.Str} (h : Lt l) : SgRow 1 l := ⟨Nat.le_of_eq h.1, h.2⟩
def wvL (i : Nat) : Nat := if i = 0 then 6 else if i = 1 then 108 else 1740
theorem IsMach.ext {C : Addr} {H H' : Hp} {m p : Addr} {c : Nat} {M : MachV} (h : IsMach C H m M) (s : Src H p c) (e : Ext p H H') : IsMach C H' m M := by
  obtain ⟨dx, t1, t2, t3, t4, t5, ws, h⟩ := h
  obtain ⟨g, s0, k, hp, _⟩ := s
  have nt : ∀ {q : Addr} {xs : List V}, H q = some (.tup xs) → H' q = some (.tup xs) := fun {q xs} hq => e _ _ (ne_of hq hp (by intro z; cases z)) hq
  have ft : ∀ {q : Addr} {xs : List V}, FzT H q xs → FzT H' q xs := fun {q xs} ⟨u, hu, z⟩ => ⟨u, e _ _ (ne_of hu hp (fun y => z.nlst _ y)) hu, z⟩
  exact ⟨dx, t1, t2, t3, t4, t5, ws, ⟨e _ _ (ne_of h.ins hp (by intro z; cases z)) h.ins, nt h.a1, Paired.mapP h.as fun v x ⟨q, ev, hq⟩ => ⟨q, ev, nt hq⟩, ft h.a2, ft h.a3, ft h.a4, ft h.a5⟩⟩
theorem RowOk.rev {r : PySem.Str} (h : RowOk r) : RowOk (revS r) := ⟨by rw [revS_len]; exact h.1, fun c hc => by
  rw [tl_revS] at hc
  exact h.2 c (List.mem_reverse.mp hc)⟩
theorem opt_ne (o : Option Int) : True := trivial
end Bz

namespace Bz
open PySem PySem.Spec PyProof.Rows L2
/-! ### the best run: the first of those with the least sum -/
def Rest (xs : List Arw) (es ls : List PySem.Str) (q : PySem.Str) (o : Option Int) : Prop := LeastO (fun n => ∃ e ∈ es, RunS xs ls q e n) o
def BStep (xs : List Arw) (es ls : List PySem.Str) (l q q' : PySem.Str) : Prop := ∃ x ∈ xs, x.s = q ∧ x.l = l ∧ x.t = q' ∧ ∃ n, Rest xs es ls x.t (some n) ∧ ∀ y ∈ xs, y.s = q → y.l = l → ∀ m, Rest xs es ls y.t (some m) → lexK (kP (y.c + m, y.t)) (kP (x.c + n, x.t)) = false
def BestFrom (xs : List Arw) (es : List PySem.Str) : List PySem.Str → PySem.Str → List PySem.Str → Prop
  | [], _, r => r = []
  | l :: ls, q, r => ∃ q' r', r = q' :: r' ∧ BStep xs es ls l q q' ∧ BestFrom xs es ls q' r'
def BestR (xs : List Arw) (ss es ls run : List PySem.Str) : Prop := ∃ s r, run = s :: r ∧ s ∈ ss ∧ (∃ n, Rest xs es ls s (some n) ∧ ∀ s' ∈ ss, ∀ m, Rest xs es ls s' (some m) → lexK (kP (m, s')) (kP (n, s)) = false) ∧ BestFrom xs es ls s r
def RunW (xs : List Arw) : List PySem.Str → PySem.Str → List PySem.Str → Int → Prop
  | [], _, r, w => r = [] ∧ w = 0
  | l :: ls, q, r, w => ∃ x ∈ xs, x.s = q ∧ x.l = l ∧ ∃ r' w', r = x.t :: r' ∧ RunW xs ls x.t r' w' ∧ w = x.c + w'
theorem kP_false {a b : Int} {s t : PySem.Str} (h : lexK (kP (a, s)) (kP (b, t)) = false) : b ≤ a ∧ (a = b → ¬ s.cps.toList < t.cps.toList) := by
  unfold kP lexK at h
  by_cases e : a = b
  · subst e
    rw [if_pos rfl] at h
    refine ⟨Int.le_refl _, fun _ c => ?_⟩
    unfold lexK at h
    by_cases e2 : (Sum.inr s : Ky) = .inr t
    · cases e2
      exact List.lt_irrefl _ c
    · rw [if_neg e2] at h
      exact of_decide_eq_false h c
  · rw [if_neg (fun z => e (Sum.inl.inj z))] at h
    have := of_decide_eq_false h
    exact ⟨by omega, fun z => absurd z e⟩
theorem runW_run {xs : List Arw} : ∀ {ls : List PySem.Str} {q : PySem.Str} {r : List PySem.Str} {w : Int}, RunW xs ls q r w → RunS xs ls q (r.getLastD q) w
  | [], q, r, w, h => by
    obtain ⟨rfl, rfl⟩ := h
    exact ⟨rfl, rfl⟩
  | l :: ls, q, r, w, h => by
    obtain ⟨x, hx, e1, e2, r', w', rfl, h, e⟩ := h
    refine ⟨x, hx, e1, e2, w', ?_, e⟩
    rw [List.getLastD_cons]
    exact runW_run h
theorem rest_cons {xs : List Arw} {es ls : List PySem.Str} {l q : PySem.Str} {w m : Int} {x : Arw} (h : Rest xs es (l :: ls) q (some w)) (hx : x ∈ xs) (e1 : x.s = q) (e2 : x.l = l) (k : Rest xs es ls x.t (some m)) : w ≤ x.c + m := by
  obtain ⟨⟨e, he, r⟩, _⟩ := k
  exact h.2 _ ⟨e, he, x, hx, e1, e2, m, r, rfl⟩
theorem rest_run {xs : List Arw} {es ls : List PySem.Str} {l q e : PySem.Str} {w m : Int} {x : Arw} (h : Rest xs es (l :: ls) q (some w)) (hx : x ∈ xs) (e1 : x.s = q) (e2 : x.l = l) (he : e ∈ es) (r : RunS xs ls x.t e m) (ew : w = x.c + m) : Rest xs es ls x.t (some m) := by
  refine ⟨⟨e, he, r⟩, ?_⟩
  rintro n ⟨e', he', r'⟩
  have := h.2 _ ⟨e', he', x, hx, e1, e2, n, r', rfl⟩
  omega
theorem rest_exists {xs : List Arw} {es ls : List PySem.Str} {l q : PySem.Str} {w : Int} (h : Rest xs es (l :: ls) q (some w)) : ∃ x ∈ xs, x.s = q ∧ x.l = l ∧ ∃ m, Rest xs es ls x.t (some m) ∧ x.c + m = w := by
  obtain ⟨e, he, x, hx, e1, e2, m, r, ew⟩ := h.1
  exact ⟨x, hx, e1, e2, m, rest_run h hx e1 e2 he r ew, ew.symm⟩
/-- what a step costs with all behind it is the least -/
theorem bstep_sum {xs : List Arw} {es ls : List PySem.Str} {l q : PySem.Str} {w n : Int} {x : Arw} (h : Rest xs es (l :: ls) q (some w)) (hx : x ∈ xs) (e1 : x.s = q) (e2 : x.l = l) (hn : Rest xs es ls x.t (some n)) (hm : ∀ y ∈ xs, y.s = q → y.l = l → ∀ m, Rest xs es ls y.t (some m) → lexK (kP (y.c + m, y.t)) (kP (x.c + n, x.t)) = false) : w = x.c + n := by
  obtain ⟨y, hy, f1, f2, m, hr, ew⟩ := rest_exists h
  have a := (kP_false (hm y hy f1 f2 m hr)).1
  have b := rest_cons h hx e1 e2 hn
  omega
theorem best_sum {xs : List Arw} {es : List PySem.Str} : ∀ {ls : List PySem.Str} {q : PySem.Str} {r : List PySem.Str} {w : Int}, BestFrom xs es ls q r → Rest xs es ls q (some w) → RunW xs ls q r w ∧ r.getLastD q ∈ es
  | [], q, r, w, hb, h => by
    obtain rfl : r = [] := hb
    obtain ⟨e, he, e1, e2⟩ := h.1
    refine ⟨⟨rfl, e2⟩, ?_⟩
    show q ∈ es
    rw [e1]
    exact he
  | l :: ls, q, r, w, hb, h => by
    obtain ⟨q', r', rfl, ⟨x, hx, e1, e2, rfl, n, hn, hm⟩, hr⟩ := hb
    have ew := bstep_sum h hx e1 e2 hn hm
    obtain ⟨i1, i2⟩ := best_sum hr hn
    refine ⟨⟨x, hx, e1, e2, r', n, rfl, i1, ew⟩, ?_⟩
    rw [List.getLastD_cons]
    exact i2
abbrev lexS (a b : List PySem.Str) : Bool := lexK (a.map Sum.inr) (b.map Sum.inr)
theorem no_less {xs : List Arw} {es : List PySem.Str} : ∀ {ls : List PySem.Str} {q : PySem.Str} {r b : List PySem.Str} {w : Int}, BestFrom xs es ls q b → RunW xs ls q r w → r.getLastD q ∈ es → Rest xs es ls q (some w) → lexS r b = false
  | [], q, r, b, w, hb, hr, he, h => by
    obtain rfl : b = [] := hb
    obtain ⟨rfl, _⟩ := hr
    rfl
  | l :: ls, q, r, b, w, hb, hr, he, h => by
    obtain ⟨q', b', rfl, ⟨y, hy, f1, f2, rfl, n, hn, hm⟩, hb⟩ := hb
    obtain ⟨x, hx, e1, e2, r', w', rfl, hr, ew⟩ := hr
    rw [List.getLastD_cons] at he
    have hw' := rest_run h hx e1 e2 he (runW_run hr) ew
    have es2 := bstep_sum h hy f1 f2 hn hm
    have ns := (kP_false (hm x hx e1 e2 w' hw')).2 (by omega)
    show lexK (Sum.inr x.t :: r'.map Sum.inr) (Sum.inr y.t :: b'.map Sum.inr) = false
    unfold lexK
    by_cases e : (Sum.inr x.t : Ky) = .inr y.t
    · rw [if_pos e]
      have e' : x.t = y.t := Sum.inr.inj e
      rw [e'] at hr he hw'
      exact no_less hb hr he hw'
    · rw [if_neg e]
      exact decide_eq_false ns
/-! ### all runs, as a law finds them -/
abbrev RunI := List PySem.Str × Int
def tails (xs : List Arw) : List PySem.Str → PySem.Str → List RunI
  | [], _ => [([], 0)]
  | l :: ls, q => (xs.filter fun x => decide (x.s = q ∧ x.l = l)).flatMap fun x => (tails xs ls x.t).map fun p => (x.t :: p.1, x.c + p.2)
theorem mem_tails {xs : List Arw} : ∀ {ls : List PySem.Str} {q : PySem.Str} {p : RunI}, p ∈ tails xs ls q ↔ RunW xs ls q p.1 p.2
  | [], q, p => by
    unfold tails RunW
    rw [List.mem_singleton]
    exact ⟨fun e => by rw [e]; exact ⟨rfl, rfl⟩, fun ⟨a, b⟩ => Prod.ext a b⟩
  | l :: ls, q, p => by
    unfold tails RunW
    rw [List.mem_flatMap]
    constructor
    · rintro ⟨x, hx, hp⟩
      obtain ⟨h1, h2⟩ := List.mem_filter.mp hx
      obtain ⟨h3, h4⟩ := of_decide_eq_true h2
      obtain ⟨p', hp', rfl⟩ := List.mem_map.mp hp
      exact ⟨x, h1, h3, h4, p'.1, p'.2, rfl, mem_tails.mp hp', rfl⟩
    · rintro ⟨x, hx, e1, e2, r', w', e3, hr, e4⟩
      refine ⟨x, List.mem_filter.mpr ⟨hx, decide_eq_true ⟨e1, e2⟩⟩, List.mem_map.mpr ⟨(r', w'), mem_tails.mpr hr, ?_⟩⟩
      exact Prod.ext e3.symm e4.symm
theorem lexS_cons {a : PySem.Str} {r b : List PySem.Str} (h : lexS r b = true) : lexS (a :: r) (a :: b) = true := by
  show lexK (Sum.inr a :: r.map Sum.inr) (Sum.inr a :: b.map Sum.inr) = true
  unfold lexK
  rw [if_pos rfl]
  exact h
theorem lexS_head {a c : PySem.Str} {r b : List PySem.Str} (h : a.cps.toList < c.cps.toList) : lexS (a :: r) (c :: b) = true := by
  show lexK (Sum.inr a :: r.map Sum.inr) (Sum.inr c :: b.map Sum.inr) = true
  unfold lexK
  rw [if_neg (fun z => by rw [Sum.inr.inj z] at h; exact List.lt_irrefl _ h)]
  exact decide_eq_true h
theorem k3_t {x y : Arw} (h : lexK x.k3 y.k3 = true) (e1 : x.s = y.s) (e2 : x.l = y.l) : x.t.cps.toList < y.t.cps.toList := by
  unfold Arw.k3 at h
  rw [e1, e2] at h
  unfold lexK at h
  rw [if_pos rfl] at h
  unfold lexK at h
  rw [if_pos rfl] at h
  unfold lexK at h
  by_cases e : (Sum.inr x.t : Ky) = .inr y.t
  · rw [if_pos e] at h
    cases h
  · rw [if_neg e] at h
    exact of_decide_eq_true h
theorem tails_asc {xs : List Arw} (hx : xs.Pairwise fun x y => lexK x.k3 y.k3 = true) : ∀ (ls : List PySem.Str) (q : PySem.Str), (tails xs ls q).Pairwise fun a b => lexS a.1 b.1 = true
  | [], q => List.pairwise_singleton ..
  | l :: ls, q => by
    unfold tails
    rw [List.pairwise_flatMap]
    constructor
    · intro x _
      rw [List.pairwise_map]
      exact (tails_asc hx ls x.t).imp fun h => lexS_cons h
    · have hp : (xs.filter fun x => decide (x.s = q ∧ x.l = l)).Pairwise fun x y => lexK x.k3 y.k3 = true := hx.sublist List.filter_sublist
      refine List.Pairwise.imp_of_mem ?_ hp
      intro x y mx my h a ha b hb
      obtain ⟨p, _, rfl⟩ := List.mem_map.mp ha
      obtain ⟨p', _, rfl⟩ := List.mem_map.mp hb
      obtain ⟨x1, x2⟩ := of_decide_eq_true (List.mem_filter.mp mx).2
      obtain ⟨y1, y2⟩ := of_decide_eq_true (List.mem_filter.mp my).2
      exact lexS_head (k3_t h (x1.trans y1.symm) (x2.trans y2.symm))
def extR (xs : List Arw) (l : PySem.Str) (p : RunI) : List RunI := (xs.filter fun x => decide (x.s = p.1.getLastD "" ∧ x.l = l)).map fun x => (p.1 ++ [x.t], p.2 + x.c)
def levels (xs : List Arw) (ls : List PySem.Str) (f : List RunI) : List RunI := ls.foldl (fun f l => f.flatMap (extR xs l)) f
theorem levels_snoc (xs : List Arw) (ls : List PySem.Str) (l : PySem.Str) (f : List RunI) : levels xs (ls ++ [l]) f = (levels xs ls f).flatMap (extR xs l) := by
  unfold levels
  rw [List.foldl_append]
  rfl
theorem levels_flat (xs : List Arw) : ∀ (ls : List PySem.Str) (f : List RunI), levels xs ls f = f.flatMap fun p => levels xs ls [p]
  | [], f => by
    show f = f.flatMap fun p => [p]
    simp
  | l :: ls, f => by
    show levels xs ls (f.flatMap (extR xs l)) = f.flatMap fun p => levels xs ls ([p].flatMap (extR xs l))
    rw [levels_flat xs ls, List.flatMap_assoc]
    congr 1
    funext p
    rw [levels_flat xs ls ([p].flatMap (extR xs l))]
    simp
theorem levels_tails (xs : List Arw) : ∀ (ls : List PySem.Str) (r : List PySem.Str) (w : Int), levels xs ls [(r, w)] = (tails xs ls (r.getLastD "")).map fun p => (r ++ p.1, w + p.2)
  | [], r, w => by
    show [(r, w)] = [(r ++ [], w + 0)]
    rw [List.append_nil, Int.add_zero]
  | l :: ls, r, w => by
    show levels xs ls ([(r, w)].flatMap (extR xs l)) = _
    rw [levels_flat]
    unfold tails extR
    simp only [List.flatMap_cons, List.flatMap_nil, List.append_nil, List.flatMap_map, List.map_flatMap, List.map_map]
    congr 1
    funext x
    rw [levels_tails xs ls]
    rw [List.getLastD_concat]
    congr 1
    funext p
    show (r ++ [x.t] ++ p.1, w + x.c + p.2) = (r ++ (x.t :: p.1), w + (x.c + p.2))
    rw [List.append_assoc, Int.add_assoc]
    rfl
def allRuns (xs : List Arw) (ss es ls : List PySem.Str) : List RunI := (levels xs ls (ss.map fun s => ([s], 0))).filter fun p => decide (p.1.getLastD "" ∈ es)
theorem levels_starts (xs : List Arw) (ss ls : List PySem.Str) : levels xs ls (ss.map fun s => ([s], 0)) = ss.flatMap fun s => (tails xs ls s).map fun p => (s :: p.1, p.2) := by
  rw [levels_flat, List.flatMap_map]
  congr 1
  funext s
  rw [levels_tails]
  show (tails xs ls s).map _ = _
  congr 1
  funext p
  show ([s] ++ p.1, 0 + p.2) = _
  rw [Int.zero_add]
  rfl
theorem mem_allRuns {xs : List Arw} {ss es ls : List PySem.Str} {p : RunI} : p ∈ allRuns xs ss es ls ↔ ∃ s ∈ ss, ∃ r, p.1 = s :: r ∧ RunW xs ls s r p.2 ∧ r.getLastD s ∈ es := by
  unfold allRuns
  rw [levels_starts, List.mem_filter, List.mem_flatMap]
  constructor
  · rintro ⟨⟨s, hs, h⟩, he⟩
    obtain ⟨q, hq, rfl⟩ := List.mem_map.mp h
    refine ⟨s, hs, q.1, rfl, mem_tails.mp hq, ?_⟩
    have := of_decide_eq_true he
    rw [List.getLastD_cons] at this
    exact this
  · rintro ⟨s, hs, r, e, h, he⟩
    refine ⟨⟨s, hs, List.mem_map.mpr ⟨(r, p.2), mem_tails.mpr h, Prod.ext e.symm rfl⟩⟩, decide_eq_true ?_⟩
    rw [e, List.getLastD_cons]
    exact he
theorem allRuns_asc {xs : List Arw} {ss es ls : List PySem.Str} (hx : xs.Pairwise fun x y => lexK x.k3 y.k3 = true) (hs : Asc ss) : (allRuns xs ss es ls).Pairwise fun a b => lexS a.1 b.1 = true := by
  unfold allRuns
  refine List.Pairwise.sublist List.filter_sublist ?_
  rw [levels_starts, List.pairwise_flatMap]
  constructor
  · intro s _
    rw [List.pairwise_map]
    exact (tails_asc hx ls s).imp fun h => lexS_cons h
  · refine hs.imp fun {s t} h a ha b hb => ?_
    obtain ⟨p, _, rfl⟩ := List.mem_map.mp ha
    obtain ⟨p', _, rfl⟩ := List.mem_map.mp hb
    exact lexS_head h
/-- a run's sum is no less than the rest's least -/
theorem runW_of {xs : List Arw} : ∀ {ls : List PySem.Str} {a b : PySem.Str} {n : Int}, RunS xs ls a b n → ∃ r, RunW xs ls a r n ∧ r.getLastD a = b
  | [], a, b, n, h => ⟨[], ⟨rfl, h.2⟩, h.1⟩
  | l :: ls, a, b, n, h => by
    obtain ⟨x, hx, e1, e2, m, h, e⟩ := h
    obtain ⟨r, hr, he⟩ := runW_of h
    exact ⟨x.t :: r, ⟨x, hx, e1, e2, r, m, rfl, hr, e⟩, by rw [List.getLastD_cons]; exact he⟩
theorem first_best {xs : List Arw} {ss es ls b : List PySem.Str} {w : Int} {p : RunI} {rest : List RunI} (hx : xs.Pairwise fun x y => lexK x.k3 y.k3 = true) (hs : Asc ss) (hb : BestR xs ss es ls b) (hw : ∀ q ∈ allRuns xs ss es ls, w ≤ q.2)
    (hf : (allRuns xs ss es ls).filter (fun q => decide (q.2 = w)) = p :: rest) : p.1 = b := by
  obtain ⟨s, r, rfl, hss, ⟨n, hn, hmin⟩, hbf⟩ := hb
  obtain ⟨i1, i2⟩ := best_sum hbf hn
  have mb : ((s :: r, n) : RunI) ∈ allRuns xs ss es ls := mem_allRuns.mpr ⟨s, hss, r, rfl, i1, i2⟩
  have mp : p ∈ (allRuns xs ss es ls).filter (fun q => decide (q.2 = w)) := by rw [hf]; exact List.mem_cons_self ..
  obtain ⟨mp1, mp2⟩ := List.mem_filter.mp mp
  have ep : p.2 = w := of_decide_eq_true mp2
  obtain ⟨s', hs', r', e', h', he'⟩ := mem_allRuns.mp mp1
  -- the rest from the first run's start
  have hrest : Rest xs es ls s' (some w) := by
    refine ⟨⟨_, he', ?_⟩, ?_⟩
    · rw [← ep]
      exact runW_run h'
    · rintro m ⟨e, he, hr⟩
      obtain ⟨rr, h1, h2⟩ := runW_of hr
      exact hw (s' :: rr, m) (mem_allRuns.mpr ⟨s', hs', rr, rfl, h1, by rw [h2]; exact he⟩)
  have hk := kP_false (hmin s' hs' w hrest)
  have hwn := hw _ mb
  have en : w = n := by
    have := hk.1
    have : w ≤ n := hwn
    omega
  subst en
  have mbf : ((s :: r, w) : RunI) ∈ (allRuns xs ss es ls).filter (fun q => decide (q.2 = w)) := List.mem_filter.mpr ⟨mb, decide_eq_true rfl⟩
  have hasc := (allRuns_asc (es := es) (ls := ls) hx hs).sublist (List.filter_sublist (p := fun q => decide (q.2 = w)))
  rw [hf] at mbf hasc
  rcases List.mem_cons.mp mbf with e | hm
  · rw [← e]
  · exfalso
    have lt := (List.pairwise_cons.mp hasc).1 _ hm
    rw [e'] at lt
    have nl : lexS (s' :: r') (s :: r) = false := by
      show lexK (Sum.inr s' :: r'.map Sum.inr) (Sum.inr s :: r.map Sum.inr) = false
      unfold lexK
      by_cases e : (Sum.inr s' : Ky) = .inr s
      · rw [if_pos e]
        have e2 : s' = s := Sum.inr.inj e
        rw [e2, ep] at h'
        rw [e2] at he'
        exact no_less hbf h' he' hn
      · rw [if_neg e]
        exact decide_eq_false (hk.2 rfl)
    rw [nl] at lt
    cases lt
end Bz

namespace Bz
open PySem PySem.Spec PyProof.Rows L2
/-! ### as the program finds it -/
theorem ah_rest {xs : List Arw} {es ls : List PySem.Str} {q : PySem.Str} {o : Option Int} (h : LeastO (Rch (xs.map swapA) es ls.reverse q) o) : Rest xs es ls q o := by
  refine LeastO.iff (fun n => ?_) h
  rw [rch_run _ _ _ _ rfl]
  exact ⟨fun ⟨a, ha, r⟩ => ⟨a, ha, (run_rev _ _ _ _).mpr r⟩, fun ⟨a, ha, r⟩ => ⟨a, ha, (run_rev _ _ _ _).mp r⟩⟩
theorem mem_steps {xs : List Arw} {l q : PySem.Str} {g : PySem.Str → Option Int} {p : PIS} : p ∈ ((xs.filter fun x => decide (x.l = l)).map mvOf).filterMap (stepOf q g) ↔ ∃ x ∈ xs, x.l = l ∧ x.s = q ∧ ∃ n, g x.t = some n ∧ p = (x.c + n, x.t) := by
  rw [List.mem_filterMap]
  constructor
  · rintro ⟨m, hm, e⟩
    obtain ⟨x, hx, rfl⟩ := List.mem_map.mp hm
    obtain ⟨h1, h2⟩ := List.mem_filter.mp hx
    unfold stepOf at e
    by_cases c : (mvOf x).1 = q
    · rw [if_pos c] at e
      obtain ⟨n, hn, e2⟩ := Option.map_eq_some_iff.mp e
      exact ⟨x, h1, of_decide_eq_true h2, c, n, hn, e2.symm⟩
    · rw [if_neg c] at e
      cases e
  · rintro ⟨x, hx, e1, e2, n, hn, rfl⟩
    refine ⟨mvOf x, List.mem_map.mpr ⟨x, List.mem_filter.mpr ⟨hx, decide_eq_true e1⟩, rfl⟩, ?_⟩
    unfold stepOf
    rw [if_pos (show (mvOf x).1 = q from e2), show g (mvOf x).2.1 = some n from hn]
    rfl
theorem next_ne {xs : List Arw} {es ls : List PySem.Str} {l q : PySem.Str} {g : PySem.Str → Option Int} {w : Int} (hg : ∀ q, Rest xs es ls q (g q)) (h : Rest xs es (l :: ls) q (some w)) : ((xs.filter fun x => decide (x.l = l)).map mvOf).filterMap (stepOf q g) ≠ [] := by
  obtain ⟨x, hx, e1, e2, m, hm, _⟩ := rest_exists h
  intro z
  have : ((x.c + m, x.t) : PIS) ∈ ((xs.filter fun x => decide (x.l = l)).map mvOf).filterMap (stepOf q g) := mem_steps.mpr ⟨x, hx, e2, e1, m, LeastO.uniq (hg x.t) hm, rfl⟩
  rw [z] at this
  cases this
theorem next_step {xs : List Arw} {es ls : List PySem.Str} {l q : PySem.Str} {g : PySem.Str → Option Int} {p : PIS} (hg : ∀ q, Rest xs es ls q (g q)) (hp : p ∈ ((xs.filter fun x => decide (x.l = l)).map mvOf).filterMap (stepOf q g))
    (hm : ∀ r ∈ ((xs.filter fun x => decide (x.l = l)).map mvOf).filterMap (stepOf q g), lexK (kP r) (kP p) = false) : BStep xs es ls l q p.2 ∧ ∃ n, Rest xs es ls p.2 (some n) := by
  obtain ⟨x, hx, e1, e2, n, hn, rfl⟩ := mem_steps.mp hp
  have hr : Rest xs es ls x.t (some n) := by rw [← hn]; exact hg x.t
  refine ⟨⟨x, hx, e2, e1, rfl, n, hr, fun y hy f1 f2 m hm2 => ?_⟩, n, hr⟩
  exact hm (y.c + m, y.t) (mem_steps.mpr ⟨y, hy, f2, f1, m, LeastO.uniq (hg y.t) hm2, rfl⟩)
/-- r0, the run behind its start s, up to the i-th letter -/
def BPre (xs : List Arw) (es ls : List PySem.Str) (s : PySem.Str) (i : Nat) (r0 : List PySem.Str) : Prop :=
  r0.length = i ∧ (∀ r', BestFrom xs es (ls.drop i) (r0.getLastD s) r' → BestFrom xs es ls s (r0 ++ r')) ∧ ∃ n, Rest xs es (ls.drop i) (r0.getLastD s) (some n)
theorem BPre.step {xs : List Arw} {es ls : List PySem.Str} {s l q : PySem.Str} {i : Nat} {r0 : List PySem.Str} (h : BPre xs es ls s i r0) (hl : ls[i]? = some l) (hs : BStep xs es (ls.drop (i + 1)) l (r0.getLastD s) q) (hn : ∃ n, Rest xs es (ls.drop (i + 1)) q (some n)) : BPre xs es ls s (i + 1) (r0 ++ [q]) := by
  obtain ⟨h1, h2, _⟩ := h
  refine ⟨by rw [List.length_append, h1]; rfl, fun r' hr => ?_, by rw [List.getLastD_concat]; exact hn⟩
  rw [List.getLastD_concat] at hr
  rw [List.append_assoc]
  refine h2 (q :: r') ?_
  obtain ⟨hi, e⟩ := List.getElem?_eq_some_iff.mp hl
  rw [List.drop_eq_getElem_cons hi, e]
  exact ⟨q, r', rfl, hs, hr⟩
theorem BPre.done {xs : List Arw} {es ls : List PySem.Str} {s : PySem.Str} {r0 : List PySem.Str} (h : BPre xs es ls s ls.length r0) : BestFrom xs es ls s r0 := by
  have := h.2.1 []
  rw [List.append_nil, List.drop_length] at this
  exact this rfl
abbrev stPS (g : PySem.Str → Option Int) (s : PySem.Str) : Option PIS := (g s).map fun n => (n, s)
theorem mem_stPS {ss : List PySem.Str} {g : PySem.Str → Option Int} {p : PIS} : p ∈ ss.filterMap (stPS g) ↔ p.2 ∈ ss ∧ g p.2 = some p.1 := by
  rw [List.mem_filterMap]
  constructor
  · rintro ⟨s, hs, e⟩
    obtain ⟨n, hn, rfl⟩ := Option.map_eq_some_iff.mp e
    exact ⟨hs, hn⟩
  · rintro ⟨h1, h2⟩
    exact ⟨p.2, h1, by unfold stPS; rw [h2]; rfl⟩
def spBest (C : Addr) : Sp := fun vs H Q _ => ∃ (m : Addr) (M : MachV) (row : PySem.Str), vs = [.ref m, .str row] ∧ IsMach C H m M ∧ MGood M ∧ RowOk row ∧
  (∀ H', (∀ s ∈ M.sts, Rest M.ars M.ens (sgnL row) s none) → Same H H' → Q .non H') ∧
  ∀ (run : List PySem.Str) (t : Addr) (H' : Hp), BestR M.ars M.sts M.ens (sgnL row) run → H' t = some (.tup (run.map V.str)) → Same H H' → Q (.ref t) H'
theorem atI_lastS (s : PySem.Str) (r : List PySem.Str) : atI ((s :: r).map V.str) (-1) = some (.str (r.getLastD s)) := by
  rcases List.eq_nil_or_concat r with rfl | ⟨f, q, rfl⟩
  · exact atI_last (xs := []) (V.str s)
  · rw [List.concat_eq_append, List.getLastD_concat, ← List.cons_append, List.map_append]
    exact atI_last ..
end Bz

namespace Bz
open PySem PySem.Spec PyProof.Rows L2
/-! ### runs on the heap: a tuple of states and their sum -/
abbrev RnS (H : Hp) (us : List V) (ps : List RunI) : Prop := Paired (fun v p => ∃ q t, v = V.ref q ∧ H q = some (.tup [.ref t, .int p.2]) ∧ H t = some (.tup (p.1.map V.str))) us ps
theorem RnS.same {H H' : Hp} {us : List V} {ps : List RunI} (h : RnS H us ps) (e : Same H H') : RnS H' us ps := Paired.mapP h fun v p ⟨q, t, ev, h1, h2⟩ => ⟨q, t, ev, e _ _ h1, e _ _ h2⟩
def RnD (D : Addr) (H : Hp) (us : List V) (ps : List RunI) : Prop := Paired (fun v p => ∃ q t, v = V.ref q ∧ q ≠ D ∧ t ≠ D ∧ H q = some (.tup [.ref t, .int p.2]) ∧ H t = some (.tup (p.1.map V.str))) us ps
theorem RnD.upd {D : Addr} {H : Hp} {us : List V} {ps : List RunI} {o : HO} (h : RnD D H us ps) : RnD D (L2.upd H D o) us ps := Paired.mapP h fun v p ⟨q, t, ev, n1, n2, h1, h2⟩ => ⟨q, t, ev, n1, n2, (upd_ne n1).trans h1, (upd_ne n2).trans h2⟩
theorem RnD.keep {D : Addr} {H H' : Hp} {us : List V} {ps : List RunI} (h : RnD D H us ps) (e : Same H H') : RnD D H' us ps := Paired.mapP h fun v p ⟨q, t, ev, n1, n2, h1, h2⟩ => ⟨q, t, ev, n1, n2, e _ _ h1, e _ _ h2⟩
theorem RnD.snoc {D g t : Addr} {H : Hp} {us : List V} {ps : List RunI} {p : RunI} (h : RnD D H us ps) (n1 : g ≠ D) (n2 : t ≠ D) (e1 : H g = some (.tup [.ref t, .int p.2])) (e2 : H t = some (.tup (p.1.map V.str))) : RnD D H (us ++ [.ref g]) (ps ++ [p]) := paired_snoc h ⟨g, t, rfl, n1, n2, e1, e2⟩
theorem RnD.rn {D : Addr} {H : Hp} {us : List V} {ps : List RunI} (h : RnD D H us ps) : RnS H us ps := Paired.mapP h fun v p ⟨q, t, ev, _, _, h1, h2⟩ => ⟨q, t, ev, h1, h2⟩
theorem paired_app2 {α β : Type} {R : α → β → Prop} {as bs : List α} {cs ds : List β} (h1 : Paired R as cs) (h2 : Paired R bs ds) : Paired R (as ++ bs) (cs ++ ds) := by
  induction h1 with
  | nil => exact h2
  | cons a _ ih => exact .cons a ih
/-- runs that are never empty, of names alone -/
def RnOk (ps : List RunI) : Prop := ∀ p ∈ ps, p.1 ≠ [] ∧ p.1.length ≤ 10 ∧ ∀ s ∈ p.1, ∀ c ∈ TL.tl s, Sg c
def spRunsL (K : PySem.W.Frag) : Sp := fun vs H Q _ => ∃ (m a b e : Addr) (us : List V) (xs : List Arw) (ss es : List PySem.Str) (row : PySem.Str), vs = [.ref m, .str row] ∧ MadeL K H m a b e us xs ss es ∧ (∀ x ∈ xs, x.Ok) ∧ xs.length ≤ 9 ∧ ss.length ≤ 5 ∧ (∀ s ∈ ss, ∀ c ∈ TL.tl s, Sg c) ∧ row.length ≤ 5 ∧ (∀ c ∈ TL.tl row, Sg c) ∧
  ∀ (q : Addr) (ws : List V) (os : List PySem.Str) (H' : Hp), H q = none → H' q = some (.lst ws) → RnS H' ws (allRuns xs os es (sgnL row)) → Asc os → (∀ k, k ∈ os ↔ k ∈ ss) → ws.length ≤ 295245 → RnOk (allRuns xs os es (sgnL row)) → Same H H' → Q (.ref q) H'
theorem getLastD_map (r : List PySem.Str) (h : r ≠ []) : atI (r.map V.str) (-1) = some (.str (r.getLastD "")) := by
  cases r with
  | nil => exact absurd rfl h
  | cons s r =>
    rw [atI_lastS, List.getLastD_cons]
theorem last_sg {r : List PySem.Str} (h : r ≠ []) (k : ∀ s ∈ r, ∀ c ∈ TL.tl s, Sg c) : ∀ c ∈ TL.tl (r.getLastD ""), Sg c := by
  refine k _ ?_
  rw [List.getLastD_eq_getLast?, List.getLast?_eq_getLast h]
  exact List.getLast_mem h
theorem ext_ok {xs : List Arw} {l : PySem.Str} {p : RunI} {k : Nat} (hx : ∀ x ∈ xs, x.Ok) (h : p.1 ≠ [] ∧ p.1.length ≤ k ∧ ∀ s ∈ p.1, ∀ c ∈ TL.tl s, Sg c) : ∀ r ∈ extR xs l p, r.1 ≠ [] ∧ r.1.length ≤ k + 1 ∧ ∀ s ∈ r.1, ∀ c ∈ TL.tl s, Sg c := by
  intro r hr
  obtain ⟨x, hx', rfl⟩ := List.mem_map.mp hr
  refine ⟨by simp, by rw [List.length_append, List.length_singleton]; omega, fun s hs => ?_⟩
  rcases List.mem_append.mp hs with hs | hs
  · exact h.2.2 s hs
  · rw [List.mem_singleton.mp hs]
    exact (hx x (List.mem_filter.mp hx').1).t.2.2
theorem lt_one {l : PySem.Str} (h : Lt l) : ∃ ch, TL.tl l = [ch] ∧ Sg ch := by
  have h1 := h.1
  rw [len_tl] at h1
  obtain ⟨ch, e⟩ := List.length_eq_one_iff.mp h1
  exact ⟨ch, e, h.2 ch (by rw [e]; exact List.mem_singleton.mpr rfl)⟩
theorem cheap_self {ys : List Arw} (h : ys.Pairwise fun x y => lexK x.k3 y.k3 = true) : CheapOf ys ys :=
  ⟨h, fun y hy => ⟨hy, fun x hx e => by rw [k3_inj (k3_ne h) hx hy e]; exact Int.le_refl _⟩, fun x hx => ⟨x, hx, rfl⟩⟩
def dpRun (p : RunI) : PyData := .tuple [.tuple (p.1.map PyData.str), .int p.2]
theorem dp_runs {K : PySem.W.Frag} {H : Hp} {us : List V} {ps : List RunI} (h : RnS H us ps) : DpAll K H us (ps.map dpRun) := by
  induction h with
  | nil => exact .nil
  | cons a _ ih =>
    obtain ⟨q, t, rfl, h1, h2⟩ := a
    exact .cons (.tup (SqT.of h1) (.cons (.tup (SqT.of h2) (dp_strs _)) (.cons (.int _) .nil))) ih
theorem lay_strs {r : List PySem.Str} (h : ∀ s ∈ r, ∀ c ∈ TL.tl s, Sg c) : PyData.canLayAll0 (r.map PyData.str) = true ∧ PyData.depthAll (r.map PyData.str) ≤ 0 := by
  induction r with
  | nil => exact ⟨by simp only [List.map_nil, PyData.canLayAll0], by simp only [List.map_nil, PyData.depthAll]; omega⟩
  | cons s r ih =>
    obtain ⟨h1, h2⟩ := ih fun z hz => h z (List.mem_cons_of_mem _ hz)
    simp only [List.map_cons, PyData.canLayAll0, PyData.depthAll, PyData.canLay0, PyData.depth, sOk_of (h s (List.mem_cons_self ..)), h1]
    exact ⟨rfl, by omega⟩
theorem shaped_strs {r : List PySem.Str} (h : ∀ s ∈ r, ∀ c ∈ TL.tl s, Sg c) : SeqAt.shaped (.tuple (r.map PyData.str)) = true := by
  obtain ⟨h1, h2⟩ := lay_strs h
  unfold SeqAt.shaped
  simp only [PyData.canLay0, PyData.depth, h1, Bool.true_and]
  exact decide_eq_true (by omega)
theorem shaped_runs {ps : List RunI} (h : RnOk ps) : SeqAt.shaped (.list (ps.map dpRun)) = true := by
  have q : PyData.canLayAll0 (ps.map dpRun) = true ∧ PyData.depthAll (ps.map dpRun) ≤ 3 := by
    induction ps with
    | nil => exact ⟨by simp only [List.map_nil, PyData.canLayAll0], by simp only [List.map_nil, PyData.depthAll]; omega⟩
    | cons p ps ih =>
      obtain ⟨h1, h2⟩ := ih fun z hz => h z (List.mem_cons_of_mem _ hz)
      obtain ⟨h3, h4⟩ := lay_strs (h p (List.mem_cons_self ..)).2.2
      unfold dpRun at h1 h2 ⊢
      simp only [List.map_cons, PyData.canLayAll0, PyData.depthAll, PyData.canLay0, PyData.depth, h1, h3]
      exact ⟨rfl, by omega⟩
  unfold SeqAt.shaped
  simp only [PyData.canLay0, PyData.depth, q.1, Bool.true_and]
  exact decide_eq_true (by omega)
theorem eqvAll_strs (r : List PySem.Str) : PyData.eqvAll (r.map PyData.str) (r.map PyData.str) = true := by
  induction r with
  | nil => simp [PyData.eqvAll]
  | cons s r ih => simp [PyData.eqvAll, PyData.eqv, ih]
theorem eqv_tstrs (r : List PySem.Str) : PyData.eqv (.tuple (r.map PyData.str)) (.tuple (r.map PyData.str)) = true := by
  simp only [PyData.eqv]
  exact eqvAll_strs r
theorem runs_nil {xs : List Arw} {ss es ls : List PySem.Str} (h : ∀ s ∈ ss, Rest xs es ls s none) : allRuns xs ss es ls = [] := by
  refine List.eq_nil_iff_forall_not_mem.mpr fun p hp => ?_
  obtain ⟨s, hs, r, _, hr, he⟩ := mem_allRuns.mp hp
  exact h s hs p.2 ⟨_, he, runW_run hr⟩
theorem runs_ne {xs : List Arw} {ss es ls b : List PySem.Str} (h : BestR xs ss es ls b) : allRuns xs ss es ls ≠ [] := by
  obtain ⟨s, r, rfl, hs, ⟨n, hn, _⟩, hb⟩ := h
  obtain ⟨h1, h2⟩ := best_sum hb hn
  intro z
  have : ((s :: r, n) : RunI) ∈ allRuns xs ss es ls := mem_allRuns.mpr ⟨s, hs, r, rfl, h1, h2⟩
  rw [z] at this
  cases this
theorem sgnL_app (a b : PySem.Str) : sgnL (a ++ b) = sgnL a ++ sgnL b := by
  have e : (a ++ b).cps.toList = a.cps.toList ++ b.cps.toList := TL.tl_append a b
  unfold sgnL
  rw [e, List.map_append]
theorem no_z {xs : List Arw} {es : List PySem.Str} {l s : PySem.Str} {n : Int} (hx : ∀ x ∈ xs, x.l ≠ "z") : ¬ Rest xs es (sgnL (l ++ "z")) s (some n) := by
  rintro ⟨⟨e, _, r⟩, _⟩
  have ez : sgnL "z" = [("z" : PySem.Str)] := by decide +kernel
  rw [sgnL_app, ez] at r
  obtain ⟨x, hx', e1, _⟩ := (run_snoc _ _ _ _).mp r
  exact hx x hx' e1
theorem z_not : ∀ l ∈ (["a", "b", "c", "d"] : List PySem.Str), l ≠ "z" := by
  have q : ((["a", "b", "c", "d"] : List PySem.Str).all fun l => decide (l ≠ "z")) = true := by decide +kernel
  exact fun l hl => of_decide_eq_true (List.all_eq_true.mp q l hl)
theorem MadeL.ext {K : PySem.W.Frag} {H H' : Hp} {m a b e p : Addr} {c : Nat} {us : List V} {xs : List Arw} {ss es : List PySem.Str} (h : MadeL K H m a b e us xs ss es) (s : Src H p c) (n1 : a ≠ p) (n2 : b ≠ p) (n3 : e ≠ p) (x : Ext p H H') : MadeL K H' m a b e us xs ss es := by
  obtain ⟨g, s0, k, hp, _⟩ := s
  have nt : ∀ {q : Addr} {xs : List V}, H q = some (.tup xs) → H' q = some (.tup xs) := fun {q xs} hq => x _ _ (ne_of hq hp (by intro z; cases z)) hq
  exact ⟨nt h.m, x.sq n1 h.a, Paired.mapP h.as fun v y ⟨q, ev, hq⟩ => ⟨q, ev, nt hq⟩, x.sq n2 h.b, x.sq n3 h.e⟩
/-- first texts of runs, at D no more -/
def TsD (D : Addr) (H : Hp) (us : List V) (ps : List RunI) : Prop := Paired (fun v p => ∃ t, v = V.ref t ∧ t ≠ D ∧ H t = some (.tup (p.1.map V.str))) us ps
theorem TsD.upd {D : Addr} {H : Hp} {us : List V} {ps : List RunI} {o : HO} (h : TsD D H us ps) : TsD D (L2.upd H D o) us ps := Paired.mapP h fun v p ⟨t, ev, n, h1⟩ => ⟨t, ev, n, (upd_ne n).trans h1⟩
theorem TsD.keep {D : Addr} {H H' : Hp} {us : List V} {ps : List RunI} (h : TsD D H us ps) (e : Same H H') : TsD D H' us ps := Paired.mapP h fun v p ⟨t, ev, n, h1⟩ => ⟨t, ev, n, e _ _ h1⟩
theorem allRuns_congr {xs : List Arw} {ss es gs ls : List PySem.Str} (h : ∀ z, z ∈ es ↔ z ∈ gs) : allRuns xs ss es ls = allRuns xs ss gs ls := by
  unfold allRuns
  refine List.filter_congr fun p _ => ?_
  rw [decide_eq_decide]
  exact h _
end Bz

namespace Bz
open PySem PySem.Spec PyProof.Rows L2
/-! ### prices put together -/
def addO : Option Int → Option Int → Option Int
  | some a, some b => some (a + b)
  | _, _ => none
def spLeast1 (K : PySem.W.Frag) : Sp := fun vs H Q _ => ∃ (a : Addr) (os : List (Option Int)), vs = [.ref a] ∧ SqL K H a (os.map optV) ∧ os.length ≤ 100000 ∧ ∀ (o : Option Int) (H' : Hp), LeastO (fun n => some n ∈ os) o → Same H H' → Q (optV o) H'
def spSum2 : Sp := fun vs H Q _ => ∃ a b : Option Int, vs = [optV a, optV b] ∧ Q (optV (addO a b)) H
theorem map_opt {os : List (Option Int)} {i : Nat} {y : V} (h : (os.map optV)[i]? = some y) : ∃ o, y = optV o ∧ os[i]? = some o := by
  rw [List.getElem?_map] at h
  obtain ⟨o, e1, e2⟩ := Option.map_eq_some_iff.mp h
  exact ⟨o, e2.symm, e1⟩
theorem optV_none (o : Option Int) : decide (optV o = .non) = o.isNone := by cases o <;> rfl
/-! a run's sum, letter by letter -/
theorem filter_one {xs : List Arw} (h : xs.Pairwise fun x y => x.k3 ≠ y.k3) {x : Arw} (hx : x ∈ xs) : (xs.filter fun y => decide (y.s = x.s) && (decide (y.l = x.l) && decide (y.t = x.t))) = [x] := by
  induction xs with
  | nil => cases hx
  | cons z xs ih =>
    obtain ⟨h1, h2⟩ := List.pairwise_cons.mp h
    rcases List.mem_cons.mp hx with e | hx
    · subst e
      rw [List.filter_cons_of_pos (by simp)]
      congr 1
      refine List.filter_eq_nil_iff.mpr fun y hy c => h1 y hy ?_
      simp only [Bool.and_eq_true, decide_eq_true_eq] at c
      unfold Arw.k3
      rw [c.1, c.2.1, c.2.2]
    · rw [List.filter_cons_of_neg, ih h2 hx]
      intro c
      simp only [Bool.and_eq_true, decide_eq_true_eq] at c
      refine h1 x hx ?_
      unfold Arw.k3
      rw [c.1, c.2.1, c.2.2]
def spRunP (C : Addr) : Sp := fun vs H Q _ => ∃ (m t : Addr) (M : MachV) (row s : PySem.Str) (r : List PySem.Str) (w : Int), vs = [.ref m, .str row, .ref t] ∧ IsMach C H m M ∧ MFine M ∧ (M.ars.Pairwise fun x y => lexK x.k3 y.k3 = true) ∧ RowOk row ∧ H t = some (.tup ((s :: r).map V.str)) ∧
  RunW M.ars (sgnL row) s r w ∧ s ∈ M.sta ∧ ∀ H', Same H H' → Q (.int w) H'
/-- what is left of a run behind the i-th letter -/
def RLeft (xs : List Arw) (ls run : List PySem.Str) (i : Nat) (w' : Int) : Prop := ∃ q r', run.drop i = q :: r' ∧ RunW xs (ls.drop i) q r' w'
theorem RLeft.step {xs : List Arw} {ls run : List PySem.Str} {i : Nat} {w' : Int} {l : PySem.Str} (h : RLeft xs ls run i w') (hl : ls[i]? = some l) : ∃ x ∈ xs, x.l = l ∧ run[i]? = some x.s ∧ run[i + 1]? = some x.t ∧ ∃ w2, w' = x.c + w2 ∧ RLeft xs ls run (i + 1) w2 := by
  obtain ⟨q, r', e, h⟩ := h
  obtain ⟨hi, el⟩ := List.getElem?_eq_some_iff.mp hl
  rw [List.drop_eq_getElem_cons hi, el] at h
  obtain ⟨x, hx, e1, e2, r2, w2, e3, h2, e4⟩ := h
  subst e3
  have d0 : run[i]? = some q := by
    have := congrArg (fun l => l[0]?) e
    simpa using this
  have d1 : run.drop (i + 1) = x.t :: r2 := by
    have := congrArg List.tail e
    simpa using this
  have d2 : run[i + 1]? = some x.t := by
    have := congrArg (fun l => l[0]?) d1
    simpa using this
  exact ⟨x, hx, e2, by rw [d0, e1], d2, w2, e4, x.t, r2, d1, h2⟩
theorem shaped_lstrs {r : List PySem.Str} (h : ∀ s ∈ r, ∀ c ∈ TL.tl s, Sg c) : SeqAt.shaped (.list (r.map PyData.str)) = true := by
  obtain ⟨h1, h2⟩ := lay_strs h
  unfold SeqAt.shaped
  simp only [PyData.canLay0, PyData.depth, h1, Bool.true_and]
  exact decide_eq_true (by omega)
/-! cut texts -/
theorem tl_cutD (z : PySem.Str) (k : Nat) : TL.tl (cutS z (some (k : Int)) none) = (TL.tl z).drop k := by
  have e1 : HT.sIx z.length 0 (some (k : Int)) = min k z.length := sIx_min
  have e2 : HT.sIx z.length z.length none = z.length := rfl
  unfold cutS
  show (List.take (HT.sIx z.length z.length none - HT.sIx z.length 0 (some (k : Int))) (List.drop (HT.sIx z.length 0 (some (k : Int))) z.cps.toList)).toArray.toList = _
  rw [e1, e2]
  show List.take (z.length - min k z.length) (List.drop (min k z.length) z.cps.toList) = List.drop k z.cps.toList
  have el : z.length = z.cps.toList.length := len_tl z
  rw [el]
  by_cases c : k ≤ z.cps.toList.length
  · rw [Nat.min_eq_left c]
    exact List.take_of_length_le (by rw [List.length_drop]; omega)
  · rw [Nat.min_eq_right (by omega), List.drop_of_length_le (by omega), List.drop_of_length_le (by omega)]
    simp
theorem sgnL_tl (z : PySem.Str) : sgnL z = (TL.tl z).map fun ch => (⟨#[ch]⟩ : PySem.Str) := rfl
theorem sgnL_cutD (z : PySem.Str) (k : Nat) : sgnL (cutS z (some (k : Int)) none) = (sgnL z).drop k := by
  rw [sgnL_tl, sgnL_tl, tl_cutD, List.map_drop]
theorem sgnL_cutN (z : PySem.Str) (k : Nat) : sgnL (cutS z none (some (k : Int))) = (sgnL z).take k := by
  rw [sgnL_tl, sgnL_tl, tl_cutN, List.map_take]
theorem RowOk.cutD {z : PySem.Str} (h : RowOk z) (k : Nat) : RowOk (cutS z (some (k : Int)) none) := by
  refine ⟨?_, fun c hc => ?_⟩
  · have := h.1
    rw [len_tl] at this
    rw [len_tl, tl_cutD, List.length_drop]
    omega
  · rw [tl_cutD] at hc
    exact h.2 c (List.mem_of_mem_drop hc)
theorem RowOk.cutN {z : PySem.Str} (h : RowOk z) (k : Nat) : RowOk (cutS z none (some (k : Int))) := by
  refine ⟨?_, fun c hc => ?_⟩
  · have := h.1
    rw [len_tl] at this
    rw [len_tl, tl_cutN, List.length_take]
    omega
  · rw [tl_cutN] at hc
    exact h.2 c (List.mem_of_mem_take hc)
/-! the first of the least -/
theorem kP_ge {a b : Int} {s t : PySem.Str} (h : b ≤ a) (k : a = b → ¬ s.cps.toList < t.cps.toList) : lexK (kP (a, s)) (kP (b, t)) = false := by
  unfold kP lexK
  by_cases e : a = b
  · subst e
    rw [if_pos rfl]
    unfold lexK
    by_cases e2 : (Sum.inr s : Ky) = .inr t
    · rw [if_pos e2]
      rfl
    · rw [if_neg e2]
      exact decide_eq_false (k rfl)
  · rw [if_neg (fun z => e (Sum.inl.inj z))]
    exact decide_eq_false (by omega)
theorem asc_head {L : List PySem.Str} {p : PySem.Str → Bool} {s0 : PySem.Str} {rest : List PySem.Str} (h : Asc L) (e : L.filter p = s0 :: rest) {s : PySem.Str} (hs : s ∈ L) (hp : p s = true) : ¬ s.cps.toList < s0.cps.toList := by
  have m : s ∈ L.filter p := List.mem_filter.mpr ⟨hs, hp⟩
  have a := h.sublist (List.filter_sublist (p := p))
  rw [e] at m a
  rcases List.mem_cons.mp m with rfl | m
  · exact List.lt_irrefl _
  · exact fun c => List.lt_irrefl _ (List.lt_trans c ((List.pairwise_cons.mp a).1 s m))
theorem ars_head {xs : List Arw} {p : Arw → Bool} {x0 : Arw} {rest : List Arw} (h : xs.Pairwise fun x y => lexK x.k3 y.k3 = true) (e : xs.filter p = x0 :: rest) {y : Arw} (hy : y ∈ xs) (hp : p y = true) (e1 : x0.s = y.s) (e2 : x0.l = y.l) : ¬ y.t.cps.toList < x0.t.cps.toList := by
  have m : y ∈ xs.filter p := List.mem_filter.mpr ⟨hy, hp⟩
  have a := h.sublist (List.filter_sublist (p := p))
  rw [e] at m a
  rcases List.mem_cons.mp m with rfl | m
  · exact List.lt_irrefl _
  · exact fun c => List.lt_irrefl _ (List.lt_trans c (k3_t ((List.pairwise_cons.mp a).1 y m) e1 e2))
theorem strs_antisymm {a b : PySem.Str} (h1 : ¬ a.cps.toList < b.cps.toList) (h2 : ¬ b.cps.toList < a.cps.toList) : a = b := ext_tl (List.le_antisymm (List.not_lt.mp h2) (List.not_lt.mp h1))
theorem bstep_uniq {xs : List Arw} {es ls : List PySem.Str} {l q a b : PySem.Str} (h1 : BStep xs es ls l q a) (h2 : BStep xs es ls l q b) : a = b := by
  obtain ⟨x, hx, e1, e2, rfl, n, hn, hm⟩ := h1
  obtain ⟨y, hy, f1, f2, rfl, k, hk, hj⟩ := h2
  obtain ⟨a1, a2⟩ := kP_false (hm y hy f1 f2 k hk)
  obtain ⟨b1, b2⟩ := kP_false (hj x hx e1 e2 n hn)
  exact strs_antisymm (b2 (by omega)) (a2 (by omega))
theorem bestFrom_uniq {xs : List Arw} {es : List PySem.Str} : ∀ {ls : List PySem.Str} {q : PySem.Str} {a b : List PySem.Str}, BestFrom xs es ls q a → BestFrom xs es ls q b → a = b
  | [], _, _, _, h1, h2 => (show _ = [] from h1).trans (show _ = [] from h2).symm
  | l :: ls, q, a, b, h1, h2 => by
    obtain ⟨q1, r1, rfl, s1, b1⟩ := h1
    obtain ⟨q2, r2, rfl, s2, b2⟩ := h2
    obtain rfl := bstep_uniq s1 s2
    rw [bestFrom_uniq b1 b2]
theorem bestR_uniq {xs : List Arw} {ss es ls a b : List PySem.Str} (h1 : BestR xs ss es ls a) (h2 : BestR xs ss es ls b) : a = b := by
  obtain ⟨s1, r1, rfl, m1, ⟨n1, k1, j1⟩, b1⟩ := h1
  obtain ⟨s2, r2, rfl, m2, ⟨n2, k2, j2⟩, b2⟩ := h2
  obtain ⟨a1, a2⟩ := kP_false (j1 s2 m2 n2 k2)
  obtain ⟨c1, c2⟩ := kP_false (j2 s1 m1 n1 k1)
  obtain rfl := strs_antisymm (c2 (by omega)) (a2 (by omega))
  rw [bestFrom_uniq b1 b2]
theorem rest_price {xs : List Arw} {ss es ls : List PySem.Str} (h : ∀ s ∈ ss, Rest xs es ls s none) : LPr xs ss es ls none := by
  rintro n ⟨s, hs, e, he, r⟩
  exact h s hs n ⟨e, he, r⟩
theorem list_least : ∀ ns : List Int, ∃ o, LeastO (fun n => n ∈ ns) o
  | [] => ⟨none, fun n h => by cases h⟩
  | n :: ns => ⟨some (PySem.W.minOf n ns), (minOf_is n ns).1, (minOf_is n ns).2⟩
theorem rest_total (xs : List Arw) (es ls : List PySem.Str) (q : PySem.Str) : ∃ o, Rest xs es ls q o := by
  obtain ⟨o, ho⟩ := list_least (((tails xs ls q).filter fun p => decide (p.1.getLastD q ∈ es)).map (·.2))
  refine ⟨o, LeastO.iff (fun n => ?_) ho⟩
  rw [List.mem_map]
  constructor
  · rintro ⟨p, hp, rfl⟩
    obtain ⟨h1, h2⟩ := List.mem_filter.mp hp
    exact ⟨_, of_decide_eq_true h2, runW_run (mem_tails.mp h1)⟩
  · rintro ⟨e, he, r⟩
    obtain ⟨rr, h1, h2⟩ := runW_of r
    exact ⟨(rr, n), List.mem_filter.mpr ⟨mem_tails.mpr h1, decide_eq_true (by rw [h2]; exact he)⟩, rfl⟩
theorem best_price {xs : List Arw} {ss es ls run : List PySem.Str} (h : BestR xs ss es ls run) : ∃ s r n, run = s :: r ∧ s ∈ ss ∧ RunW xs ls s r n ∧ r.getLastD s ∈ es ∧ LPr xs ss es ls (some n) := by
  obtain ⟨s, r, rfl, hs, ⟨n, hn, hm⟩, hb⟩ := h
  obtain ⟨h1, h2⟩ := best_sum hb hn
  refine ⟨s, r, n, rfl, hs, h1, h2, ⟨s, hs, _, h2, runW_run h1⟩, ?_⟩
  rintro k ⟨s', hs', e, he, rr⟩
  obtain ⟨o, ho⟩ := rest_total xs es ls s'
  cases o with
  | none => exact absurd ⟨e, he, rr⟩ (ho k)
  | some m =>
    have := (kP_false (hm s' hs' m ho)).1
    have := ho.2 k ⟨e, he, rr⟩
    omega
theorem runW_len {xs : List Arw} : ∀ {ls : List PySem.Str} {q : PySem.Str} {r : List PySem.Str} {w : Int}, RunW xs ls q r w → r.length = ls.length
  | [], _, _, _, h => by rw [h.1]
  | l :: ls, q, r, w, h => by
    obtain ⟨x, _, _, _, r', w', rfl, h, _⟩ := h
    rw [List.length_cons, List.length_cons, runW_len h]
theorem runW_mem {xs : List Arw} {S : List PySem.Str} (hx : ∀ x ∈ xs, x.s ∈ S ∧ x.t ∈ S) : ∀ {ls : List PySem.Str} {q : PySem.Str} {r : List PySem.Str} {w : Int}, RunW xs ls q r w → ∀ s ∈ r, s ∈ S
  | [], _, _, _, h => by rw [h.1]; intro s hs; cases hs
  | l :: ls, q, r, w, h => by
    obtain ⟨x, hx', _, _, r', w', rfl, h, _⟩ := h
    intro s hs
    rcases List.mem_cons.mp hs with rfl | hs
    · exact (hx x hx').2
    · exact runW_mem hx h s hs
theorem run_sta {xs : List Arw} {S : List PySem.Str} (hx : ∀ x ∈ xs, x.s ∈ S ∧ x.t ∈ S) : ∀ {ls : List PySem.Str} {a b : PySem.Str} {n : Int}, a ∈ S → RunS xs ls a b n → b ∈ S
  | [], a, b, n, ha, h => by rw [← h.1]; exact ha
  | l :: ls, a, b, n, ha, h => by
    obtain ⟨x, hx', _, _, m, h, _⟩ := h
    exact run_sta hx (hx x hx').2 h
/-- from one state to another -/
def Btw (xs : List Arw) (ls : List PySem.Str) (a b : PySem.Str) (o : Option Int) : Prop := LeastO (fun n => RunS xs ls a b n) o
theorem btw_of {xs : List Arw} {ls : List PySem.Str} {a b : PySem.Str} {o : Option Int} (h : LeastO (fun n => ∃ e ∈ [b], Rch xs [a] ls e n) o) : Btw xs ls a b o := by
  refine LeastO.iff (fun n => ?_) h
  constructor
  · rintro ⟨e, he, r⟩
    rw [List.mem_singleton.mp he] at r
    obtain ⟨s, hs, r⟩ := (rch_run _ _ _ _ rfl).mp r
    rw [List.mem_singleton.mp hs] at r
    exact r
  · exact fun r => ⟨b, List.mem_singleton.mpr rfl, (rch_run _ _ _ _ rfl).mpr ⟨a, List.mem_singleton.mpr rfl, r⟩⟩
theorem addO_some {a b : Option Int} {n : Int} (h : addO a b = some n) : ∃ i j, a = some i ∧ b = some j ∧ n = i + j := by
  cases a <;> cases b <;> cases h
  exact ⟨_, _, rfl, rfl, rfl⟩
/-- the sums over all states between -/
theorem cut_least {xs : List Arw} {S : List PySem.Str} {l1 l2 : List PySem.Str} {a b : PySem.Str} {os : List (Option Int)} {o : Option Int} (hx : ∀ x ∈ xs, x.s ∈ S ∧ x.t ∈ S) (ha : a ∈ S)
    (ho : ∀ z, z ∈ os ↔ ∃ c ∈ S, ∃ x y, Btw xs l1 a c x ∧ Btw xs l2 c b y ∧ z = addO x y) (hl : LeastO (fun n => some n ∈ os) o) : Btw xs (l1 ++ l2) a b o := by
  refine LeastO.both (fun n hn => ?_) (fun n hn => ?_) hl
  · obtain ⟨c, _, x, y, h1, h2, e⟩ := (ho _).mp hn
    obtain ⟨i, j, rfl, rfl, rfl⟩ := addO_some e.symm
    exact ⟨_, Int.le_refl _, (run_app _ _ _ _).mpr ⟨c, i, j, h1.1, h2.1, rfl⟩⟩
  · obtain ⟨c, i, j, r1, r2, rfl⟩ := (run_app _ _ _ _).mp hn
    have hc := run_sta hx ha r1
    have g1 : ∃ x, Btw xs l1 a c (some x) ∧ x ≤ i := by
      obtain ⟨z, hz⟩ := rest_total xs [c] l1 a
      have hz' : Btw xs l1 a c z := LeastO.iff (fun n => ⟨fun ⟨e, he, r⟩ => by rw [List.mem_singleton.mp he] at r; exact r, fun r => ⟨c, List.mem_singleton.mpr rfl, r⟩⟩) hz
      cases z with
      | none => exact absurd r1 (hz' i)
      | some x => exact ⟨x, hz', hz'.2 i r1⟩
    have g2 : ∃ x, Btw xs l2 c b (some x) ∧ x ≤ j := by
      obtain ⟨z, hz⟩ := rest_total xs [b] l2 c
      have hz' : Btw xs l2 c b z := LeastO.iff (fun n => ⟨fun ⟨e, he, r⟩ => by rw [List.mem_singleton.mp he] at r; exact r, fun r => ⟨b, List.mem_singleton.mpr rfl, r⟩⟩) hz
      cases z with
      | none => exact absurd r2 (hz' j)
      | some x => exact ⟨x, hz', hz'.2 j r2⟩
    obtain ⟨x, hx1, lx⟩ := g1
    obtain ⟨y, hy1, ly⟩ := g2
    exact ⟨x + y, by omega, (ho _).mpr ⟨c, hc, some x, some y, hx1, hy1, rfl⟩⟩
/-- the least between starts and ends -/
theorem ways_least {xs : List Arw} {ss es ls : List PySem.Str} {os : List (Option Int)} {o : Option Int} (ho : ∀ z, z ∈ os ↔ ∃ s ∈ ss, ∃ e ∈ es, Btw xs ls s e z) (hl : LeastO (fun n => some n ∈ os) o) : LPr xs ss es ls o := by
  refine LeastO.both (fun n hn => ?_) (fun n hn => ?_) hl
  · obtain ⟨s, hs, e, he, h⟩ := (ho _).mp hn
    exact ⟨n, Int.le_refl _, s, hs, e, he, h.1⟩
  · obtain ⟨s, hs, e, he, r⟩ := hn
    obtain ⟨z, hz⟩ := rest_total xs [e] ls s
    have hz' : Btw xs ls s e z := LeastO.iff (fun n => ⟨fun ⟨e', he', r⟩ => by rw [List.mem_singleton.mp he'] at r; exact r, fun r => ⟨e, List.mem_singleton.mpr rfl, r⟩⟩) hz
    cases z with
    | none => exact absurd r (hz' n)
    | some m => exact ⟨m, hz'.2 n r, (ho _).mpr ⟨s, hs, e, he, hz'⟩⟩
def spFirst (K : PySem.W.Frag) (C : Addr) : Sp := fun vs H Q _ => ∃ (m : Addr) (M : MachV) (row : PySem.Str), vs = [.ref m, .str row] ∧ IsMach C H m M ∧ MFine M ∧ (M.ars.Pairwise fun x y => lexK x.k3 y.k3 = true) ∧ Asc M.sts ∧ RowOk row ∧
  (∀ H', (∀ s ∈ M.sts, Rest M.ars M.ens (sgnL row) s none) → Same H H' → Q .non H') ∧
  ∀ (run : List PySem.Str) (t : Addr) (H' : Hp), BestR M.ars M.sts M.ens (sgnL row) run → H' t = some (.tup (run.map V.str)) → Same H H' → Q (.ref t) H'
/-- dicts of what is left, none of them at D -/
def AhD (D : Addr) (H : Hp) (ds : List V) (gs : List (PySem.Str → Option Int)) : Prop := Paired (fun v g => ∃ d kvs, v = V.ref d ∧ d ≠ D ∧ H d = some (.dK kvs) ∧ Holds1 kvs g) ds gs
theorem AhD.upd {D : Addr} {H : Hp} {ds : List V} {gs : List (PySem.Str → Option Int)} {o : HO} (h : AhD D H ds gs) : AhD D (L2.upd H D o) ds gs := Paired.mapP h fun v g ⟨d, kvs, ev, n, hd, hg⟩ => ⟨d, kvs, ev, n, (upd_ne n).trans hd, hg⟩
theorem AhD.keep {D : Addr} {H H' : Hp} {ds : List V} {gs : List (PySem.Str → Option Int)} (h : AhD D H ds gs) (e : Same H H') : AhD D H' ds gs := Paired.mapP h fun v g ⟨d, kvs, ev, n, hd, hg⟩ => ⟨d, kvs, ev, n, e _ _ hd, hg⟩
theorem AhD.ah {D : Addr} {H : Hp} {ds : List V} {gs : List (PySem.Str → Option Int)} (h : AhD D H ds gs) : AhS H ds gs := Paired.mapP h fun v g ⟨d, kvs, ev, _, hd, hg⟩ => ⟨d, kvs, ev, hd, hg⟩
end Bz

namespace Bz
open PySem PySem.Spec PyProof.Rows L2
open AutoSeq1 (wpAny_loadPart')
/-! ### enumerate(tuple) -/
theorem new_enumTu (l : Addr) (ia : Array Value) (n : Nat) (dj : Option Addr) (sl : Array (Option Value)) :
    Meets (Builtin.«enumerate.__new__» ⟨[.type "enumerate", .ref l], []⟩) (fun _ R s => s.heap.get? l = some { cls := .type "tuple", dict := dj, data := .seq ia n, slots := sl } ∧
      R (.ok (.ret (.ref (s.heap.push { cls := .type "tuple_iterator", data := .fields #[.ref l, .int 0 0] }).objs.size)))
        { s with heap := (s.heap.push { cls := .type "tuple_iterator", data := .fields #[.ref l, .int 0 0] }).push { cls := .type "enumerate", data := .fields #[.none, .bool false, .ref s.heap.objs.size, rawInt 0, .none, .none] } }) :=
  .of_wp fun P w A R s h => by
    obtain ⟨p0, g, d, tk, os⟩ := s; obtain ⟨gl, h⟩ := h
    have gsub := sub_enumerate
    have gL : Heap.IsTuple (Shared.heap ⟨p0, g, d, tk, os⟩) l ia := ⟨_, gl, rfl, n, rfl⟩
    wp_walk using wpAny_loadPart' gl
    refine wpAny_stack_any fun st => wpAny_pure ?_
    split
    · rename_i c _ _ _ _ _
      cases (c == Value.type "enumerate")
      · wp_walk using wpAny_loadPart' gl, wpAny_pyIter_tuple gL
        exact ⟨_, rfl, h⟩
      · wp_walk using wpAny_loadPart' gl, wpAny_pyIter_tuple gL
        exact ⟨_, rfl, h⟩
    · wp_walk using wpAny_loadPart' gl, wpAny_pyIter_tuple gL
      exact ⟨_, rfl, h⟩
section
variable {P : Program} {w : World} {A : Around} {E : Value → Shared → Prop} {s : Shared}
theorem call_enumTu {l : Addr} {ia : Array Value} {Z : Value → Shared → Prop} (gL : s.heap.IsTuple l ia)  (h : ∀ h', IsEnum h' (s.heap.objs.size + 1) s.heap.objs.size 0 .none → h'.IsTupleIter s.heap.objs.size l 0 → h'.objs.size = s.heap.objs.size + 2 →
      (∀ b o, s.heap.get? b = some o → h'.get? b = some o) → Z (.ref (s.heap.objs.size + 1)) { s with heap := h' }) :
    wpAny (model P w) A (call (.type "enumerate") [.ref l]) Z E s := by
  obtain ⟨⟨c, dj, dt, sl⟩, gl, gc, n, gd⟩ := gL
  replace gc : c = .type "tuple" := gc
  replace gd : dt = .seq ia n := gd
  subst gc gd
  refine callType_new F.called_enumerate (by decide) (F.typeCall_enumerate_1 _) (F.newCall_enumerate_1 _) (fun ob => F.args_object_init_2 ob _) F.entry_enumerate_new
    (new_enumTu l ia n dj sl) ⟨gl, ?_⟩
  have gz : (s.heap.push { cls := .type "tuple_iterator", data := .fields #[.ref l, .int 0 0] }).objs.size = s.heap.objs.size + 1 := Heap.size_push ..
  show _ ∧ _
  rw [gz]
  have ge : IsEnum ((s.heap.push { cls := .type "tuple_iterator", data := .fields #[.ref l, .int 0 0] }).push
      { cls := .type "enumerate", data := .fields #[.none, .bool false, .ref s.heap.objs.size, rawInt 0, .none, .none] }) (s.heap.objs.size + 1) s.heap.objs.size 0 .none := by
    have := Heap.get?_push_size (s.heap.push { cls := .type "tuple_iterator", data := .fields #[.ref l, .int 0 0] })
      (o := { cls := .type "enumerate", data := .fields #[.none, .bool false, .ref s.heap.objs.size, rawInt 0, .none, .none] }) rfl
    rw [gz] at this; exact this
  refine ⟨⟨_, ge, rfl⟩, h _ ge ⟨_, Heap.get?_push_of_some _ (Heap.get?_push_size _ rfl), rfl, rfl⟩ (by rw [Heap.size_push, gz]) fun b o x => Heap.get?_push_of_some _ (Heap.get?_push_of_some _ x)⟩
end
def ItEt (K : PySem.W.Frag) (l : Addr) : It :=
  ⟨fun i H => ∃ (ys : List V) (y : V), SqT K H l ys ∧ ys[i]? = some y, fun i H v H' => ∃ q y, v = .ref q ∧ H q = none ∧ H' = upd H q (.tup [.int (i : Int), y]) ∧ ∀ ys, SqT K H l ys → ys[i]? = some y, fun i H => ∃ ys : List V, SqT K H l ys ∧ ys.length = i⟩
theorem turn_enumEt {P : Program} {w : World} {K : PySem.W.Frag} {elts : List Expr} {kk : Nat} {tp : Pos} (l en it : Addr) :
    Turn P w K (.Tuple elts kk tp) (ItEt K l) [en, it] en (fun i h => (∃ old, IsEnum h en it (((i : Nat) : Int)) old) ∧ h.IsTupleIter it l i ∧ en ≠ it) where
  mem := List.mem_cons_self ..
  obj := fun i h st b hb => by
    obtain ⟨⟨old, he⟩, ⟨o, ho, hc, hd⟩, _⟩ := st
    rcases List.mem_cons.mp hb with z | z
    · rw [z]
      exact ⟨_, he, fun v q => nomatch q⟩
    · rw [List.mem_singleton.mp z]
      exact ⟨o, ho, fun v q => by rw [hd] at q; cases q⟩
  keep := fun i h h' st k => ⟨⟨st.1.choose, k en (by simp) _ st.1.choose_spec⟩, st.2.1.at fun o q => k it (by simp) o q, st.2.2⟩
  item := by
    intro X hP hw hK hc i pins s σ H E I hf st hg
    subst hP hw hK
    obtain ⟨⟨old, he⟩, hit, hne⟩ := st
    obtain ⟨ys, y, hq, hy⟩ := hg
    obtain ⟨its, rv, pl, hz⟩ := I.tuple hq
    obtain ⟨u, hu, ru⟩ := rv.get hy
    have hen : en < s.heap.objs.size := Heap.lt_size he
    have hil : it < s.heap.objs.size := by
      obtain ⟨_, q, _⟩ := hit
      exact Heap.lt_size q
    have nli : l ≠ it := fun z => by
      obtain ⟨o1, q1, c1, _⟩ := hit
      obtain ⟨o2, q2, c2, _⟩ := (show Heap.IsTuple _ _ _ from pl)
      rw [z, q1] at q2
      cases q2
      rw [c1] at c2
      exact absurd (Value.type.inj c2) (by decide)
    have nle : l ≠ en := fun z => by
      obtain ⟨o2, q2, c2, _⟩ := (show Heap.IsTuple _ _ _ from pl)
      have he' : s.heap.get? en = some _ := he
      rw [z, he'] at q2
      cases q2
      exact absurd (Value.type.inj c2) (by decide)
    have D := Draws.tuple (prog := X.prog) (w := X.w) (A := X.A.in1) (I.ok.hd hc) it l nli its.toArray
    refine wpAny_pyNext_enum_itemC D he (i := i) ⟨hit, (show Heap.IsTuple _ _ _ from pl)⟩ ?_ hne (by simp [hne, Ne.symm nle]) fun x h' tk hx ho hst hT hsz hk => ?_
    · have := (List.getElem?_eq_some_iff.mp hu).1
      simpa using this
    have exu : x = u := by
      have q : its[i]? = some x := by simpa using hx
      rw [hu] at q
      exact (Option.some.inj q).symm
    subst exu
    refine ⟨_, rfl, wpAny_letOwnedTupleGo_enum (s := { s with heap := h', toks := tk + 1 }) ho fun h'' he'' sb => ?_⟩
    have hT2 : h''.get? s.heap.objs.size = some { cls := .type "tuple", data := .seq #[.int (i : Int) tk, x] } := (sb.2 _ (Nat.ne_of_gt hen)).trans hT
    have new : ObjOk X.prog X.w (upd H s.heap.objs.size (.tup [.int (i : Int), y])) h'' s.heap.objs.size (.tup [.int (i : Int), y]) :=
      ⟨Nat.le_of_ble_eq_true rfl, [.int (i : Int) tk, x], .cons ⟨_, rfl⟩ (.cons ru .nil), ⟨_, hT2, rfl, _, rfl⟩⟩
    have I1 : Inv X pins σ (upd H s.heap.objs.size (.tup [.int (i : Int), y])) { s with heap := h'', toks := tk + 1 } :=
      I.turnedNew (ch := [en, it]) (fun b ob hb q => (sb.2 b (fun z => hb (by simp [z]))).trans (hk b ob (fun z => hb (by simp [z])) (fun z => hb (by simp [z])) q)) hf (Nat.le_refl _) new
    refine ⟨.ref s.heap.objs.size, _, I1, rfl, ⟨_, y, rfl, I.hok.fresh (Nat.le_refl _), rfl, fun zs hzs => by rw [I.tuple_inj hzs hq]; exact hy⟩, ⟨⟨x, ?_⟩, hst.1.at fun o q => (sb.2 it (Ne.symm hne)).trans q, hne⟩, fun b hb => ?_⟩
    · have e1 : ((i + 1 : Nat) : Int) = (i : Int) + 1 := by omega
      rw [e1]
      exact he''
    · have hb' : b < s.heap.objs.size := by
        rcases List.mem_cons.mp hb with z | z
        · rw [z]; exact hen
        · rw [List.mem_singleton.mp z]; exact hil
      rw [upd_ne (Nat.ne_of_lt hb')]
      exact (hf b hb).1
  done := by
    intro X hP hw hK hc i pins s σ H E I hf st hg
    subst hP hw hK
    obtain ⟨⟨old, he⟩, hit, hne⟩ := st
    obtain ⟨ys, hq, hy⟩ := hg
    obtain ⟨its, rv, pl, hz⟩ := I.tuple hq
    obtain ⟨f0, f1, f2, f3, f4, f5⟩ := hf it (by simp)
    have hlen := rv.length
    have nli : l ≠ it := fun z => by
      obtain ⟨o1, q1, c1, _⟩ := hit
      obtain ⟨o2, q2, c2, _⟩ := (show Heap.IsTuple _ _ _ from pl)
      rw [z, q1] at q2
      cases q2
      rw [c1] at c2
      exact absurd (Value.type.inj c2) (by decide)
    have D := Draws.tuple (prog := X.prog) (w := X.w) (A := X.A.in1) (I.ok.hd hc) it l nli its.toArray
    have en : its.toArray.size = i := by
      rw [List.size_toArray]
      omega
    exact wpAny_pyNext_enum_endD D he ⟨by rw [en]; exact hit, (show Heap.IsTuple _ _ _ from pl)⟩ fun h' eb => ⟨rfl, I.turned (t' := s.toks) (fun b o hb q => eb b o hb q) f0 f1 f3 f4 f5⟩
  self := fun A i s Q E st h => wpAny_pyIter_enum st.1.choose_spec h

def iEnumEt (K : PySem.W.Frag) (ta : TA) : TI := fun σ H R => ta σ H fun vs H1 => ∃ l ys, vs = [V.ref l] ∧ SqT K H1 l ys ∧ R (ItEt K l) H1
theorem pi_enumEt {X : Cx} {e : Expr} {ta : TA} {p pos tpos : Pos} {elts : List Expr} {kk : Nat} (hg : Gl X "enumerate") (hm : X.mg "enumerate" = none) (ha : PA X [e] ta) (hs : starEach [e] X.env = [(false, eval e X.env)] := by rfl) :
    PI X (.Tuple elts kk tpos) (.Call (.Name "enumerate" p) [e] [] pos) (iEnumEt X.K ta) := by
  refine ⟨fun pins s σ H R I h => ?_⟩
  refine Call_ (ld_blt I hg hm boot_enumerate (PyProof.Rows.callWith_type1 (thn (ha.run pos pins s σ H (fun vs H1 => ∃ l ys, vs = [V.ref l] ∧ SqT X.K H1 l ys ∧ R (ItEt X.K l) H1) I h) fun us s1 ⟨vs, H1, I1, r1, l, ys, ez, hq, q⟩ => ?_) hs rfl))
  subst ez
  obtain ⟨u, rfl, ru⟩ := vals1 r1
  cases ru
  obtain ⟨its, rv, pl, hz⟩ := I1.tuple hq
  refine call_enumTu (ia := its.toArray) pl fun h' he hit hsz hk => wpAny_pyIter_enum he ?_
  have I2 : Inv X pins σ H1 { s1 with heap := h' } := I1.kept (t' := s1.toks) hk
  refine ⟨s1.heap.objs.size + 1, [s1.heap.objs.size + 1, s1.heap.objs.size], _, _, H1, rfl, I2, turn_enumEt l (s1.heap.objs.size + 1) s1.heap.objs.size, ⟨⟨.none, he⟩, hit, Nat.succ_ne_self _⟩, fun b hb => ?_, q⟩
  have hle : s1.heap.objs.size ≤ b := by
    rcases List.mem_cons.mp hb with e | e
    · rw [e]
      exact Nat.le_succ _
    · rw [List.mem_singleton.mp e]
      exact Nat.le_refl _
  exact I1.fpOk hle (I1.hok.fresh hle)
theorem walk_enumEt {K : PySem.W.Frag} {l : Addr} {ys : List V} : Walk (ItEt K l) ys.length (fun H => SqT K H l ys) (fun i H v H' => ∃ q y, v = .ref q ∧ H q = none ∧ H' = upd H q (.tup [.int (i : Int), y]) ∧ ys[i]? = some y) :=
  ⟨fun i _ hi q => ⟨ys, ys[i], q, by simp [hi]⟩, fun _ q => ⟨ys, q, rfl⟩, fun _ _ _ _ _ q ⟨a, b, c, d, e, f⟩ => ⟨a, b, c, d, e, f ys q⟩⟩
theorem kpi_enumEt (K : PySem.W.Frag) {X : Cx} {e : Expr} {ta : TA} {p pos tpos : Pos} {elts : List Expr} {kk : Nat} (hg : Gl X "enumerate") (hm : X.mg "enumerate" = none) (ha : PA X [e] ta) (hs : starEach [e] X.env = [(false, eval e X.env)] := by rfl) (h : X.K = K := by rfl) :
    PI X (.Tuple elts kk tpos) (.Call (.Name "enumerate" p) [e] [] pos) (iEnumEt K ta) := by
  subst h
  exact pi_enumEt hg hm ha hs
/-! ### t + u, either of them empty -/
theorem kcatA (K : PySem.W.Frag) {X : Cx} (h : X.K = K := by rfl) : OpR X (binaryOp .Add) (rCatA K) := by subst h; exact op_catA
/-- .. as one place where the two stand together -/
theorem cat_any {K : PySem.W.Frag} {H : Hp} {a b : Addr} {xs ys : List V} {Q : VK} (ha : SqT K H a xs) (hb : SqT K H b ys) (hz : xs.length + ys.length ≤ sizeLine) (k : ∀ (p : Addr) (H' : Hp), SqT K H' p (xs ++ ys) → Same H H' → Q (.ref p) H') : rCatA K (.ref a) (.ref b) H Q := by
  refine ⟨a, b, xs, ys, rfl, rfl, ha, hb, hz, fun e => ?_, fun _ e => ?_, fun _ _ p hp => ?_⟩
  · subst e
    exact k b H hb (.refl _)
  · subst e
    refine k a H ?_ (.refl _)
    rw [List.append_nil]
    exact ha
  · exact k p _ (SqT.of upd_same) (same_new hp)
/-! ### a text as a constant -/
theorem pe_cstS {X : Cx} {x z : PySem.Str} {pos : Pos} (hm : ∃ t, X.mg x = some (.str z t)) (hg : Gl X x := by rfl) (hdb : (x == ("__debug__" : PySem.Str)) = false := by decide) : PE X (.Name x pos) (tC (.str z)) := by
  obtain ⟨t, hm⟩ := hm
  exact pe_glob hg hm ⟨_, rfl⟩ hdb
/-! ### == by a class's own way -/
structure EqAt (K : PySem.W.Frag) (C : Addr) (qual : PySem.Str) (st : Stmt) : Prop where
  ex : ∃ f fd, PySem.W.findIn K (.ref C) "__eq__" = some (some (.ref f)) ∧ PySem.W.isFn K (.ref f) = true ∧ Fun K "__eq__" qual st f fd ∧ Binds K fd ["self", "other"] []
structure EqM (P : Program) (w : World) (K : PySem.W.Frag) (mg : PySem.Str → Option Value) (base : Heap) (C : Addr) (k : Nat) (R : Addr → Addr → Hp → Prop) : Prop where
  ex : ∃ f fd, PySem.W.findIn K (.ref C) "__eq__" = some (some (.ref f)) ∧ PySem.W.isFn K (.ref f) = true ∧ FnOk P w K mg base CX0 k f fd ["self", "other"] (spEq R) ∧ Binds K fd ["self", "other"] []
theorem eqM_of {P : Program} {w : World} {K : PySem.W.Frag} {mg : PySem.Str → Option Value} {base : Heap} {C : Addr} {k : Nat} {R : Addr → Addr → Hp → Prop} {qual : PySem.Str} {st : Stmt} (D : EqAt K C qual st) (h : ∀ f fd, Fun K "__eq__" qual st f fd → FnOk P w K mg base CX0 k f fd ["self", "other"] (spEq R)) : EqM P w K mg base C k R := by
  obtain ⟨f, fd, a, b, F, c⟩ := D.ex
  exact ⟨f, fd, a, b, h f fd F, c⟩
theorem keqOwn {X : Cx} {C : Addr} {k j : Nat} {R : Addr → Addr → Hp → Prop} (M : EqM X.prog X.w X.K X.mg X.base C k R) (hr : Room j X.A) (hj : k ≤ j := by decide) : OpR X (compareOp .Eq) (rEqG (DIns C R)) := by
  obtain ⟨f, fd, a, b, F, c⟩ := M.ex
  exact op_eqG (rcG_ins (E := E0) F a b c pass0) (hr.mono hj)
/-- isinstance of an own class's object -/
structure IsaAt (K : PySem.W.Frag) (C : Addr) : Prop where
  ha : PySem.W.findIn K (.ref C) "__class__" = some (some (.builtin "object.__class__"))
  hn : PySem.W.specialIn K (.builtin "object.__class__") "__get__" = some (some (.builtin "getset_descriptor.__get__"))
  ht : PySem.W.takesIn K (.builtin "object.__class__") = some true
  hm : PySem.W.mroIn K C (.type "object") = some true
theorem isa_ty {K : PySem.W.Frag} {H : Hp} {C a dx : Addr} {fs : List (PySem.Str × V)} (I : IsaAt K C) (c : Cls K C) (e : H a = some (.ins C dx fs)) : TyX K H (.ref a) (.ref C) := .base (.ins e c I.ha I.hn I.ht I.hm)
theorem kit_same {K : PySem.W.Frag} {C : Addr} : PySem.W.kitOne K (.ref C) (.ref C) = some true := by
  unfold PySem.W.kitOne
  rw [if_pos (by simp)]
theorem pe_cls {X : Cx} {x : PySem.Str} {C : Addr} {pos : Pos} (hg : Gl X x) (hm : X.mg x = some (.ref C)) (hdb : (x == ("__debug__" : PySem.Str)) = false := by decide) : PE X (.Name x pos) (tC (.ref C)) := pe_glob hg hm rfl hdb
end Bz

namespace Bz
open PySem PySem.Spec PyProof.Rows L2
/-! ### other names for states -/
def rnA (f : PySem.Str → PySem.Str) (x : Arw) : Arw := ⟨f x.s, x.l, f x.t, x.c⟩
def nmOf (k : Nat) : PySem.Str := if k < 26 then ⟨#[97 + k]⟩ else ⟨#[97 + k / 26, 97 + k % 26]⟩
theorem nm_lt {k : Nat} (h : k < 26) : nmOf k = ⟨#[97 + k]⟩ := if_pos h
theorem nm_ge {k : Nat} (h : 26 ≤ k) : nmOf k = ⟨#[97 + k / 26, 97 + k % 26]⟩ := if_neg (by omega)
theorem nm_tl1 {k : Nat} (h : k < 26) : TL.tl (nmOf k) = [97 + k] := by rw [nm_lt h]
theorem nm_tl2 {k : Nat} (h : 26 ≤ k) : TL.tl (nmOf k) = [97 + k / 26, 97 + k % 26] := by rw [nm_ge h]
theorem nm_len1 {k : Nat} (h : k < 26) : (nmOf k).length = 1 := by rw [nm_lt h]; rfl
theorem run_rn {xs : List Arw} {S : List PySem.Str} {f : PySem.Str → PySem.Str} (hx : ∀ x ∈ xs, x.s ∈ S ∧ x.t ∈ S) (hf : ∀ a ∈ S, ∀ b ∈ S, f a = f b → a = b) : ∀ (ls : List PySem.Str) (a b : PySem.Str) (n : Int), a ∈ S → b ∈ S → (RunS (xs.map (rnA f)) ls (f a) (f b) n ↔ RunS xs ls a b n)
  | [], a, b, n, ha, hb => ⟨fun ⟨e, z⟩ => ⟨hf a ha b hb e, z⟩, fun ⟨e, z⟩ => ⟨by rw [e], z⟩⟩
  | l :: ls, a, b, n, ha, hb => by
    simp only [RunS]
    constructor
    · rintro ⟨y, hy, e1, e2, m, h, rfl⟩
      obtain ⟨x, hx', rfl⟩ := List.mem_map.mp hy
      exact ⟨x, hx', hf _ (hx x hx').1 _ ha e1, e2, m, (run_rn hx hf ls x.t b m (hx x hx').2 hb).mp h, rfl⟩
    · rintro ⟨x, hx', rfl, e2, m, h, rfl⟩
      exact ⟨rnA f x, List.mem_map.mpr ⟨x, hx', rfl⟩, rfl, e2, m, (run_rn hx hf ls x.t b m (hx x hx').2 hb).mpr h, rfl⟩
theorem LPr.rn {xs : List Arw} {S ss es ls : List PySem.Str} {f : PySem.Str → PySem.Str} (hx : ∀ x ∈ xs, x.s ∈ S ∧ x.t ∈ S) (hf : ∀ a ∈ S, ∀ b ∈ S, f a = f b → a = b) (hs : ∀ s ∈ ss, s ∈ S) (he : ∀ s ∈ es, s ∈ S) {o : Option Int} : LPr (xs.map (rnA f)) (ss.map f) (es.map f) ls o ↔ LPr xs ss es ls o := by
  have h : ∀ n, (∃ s ∈ ss.map f, ∃ e ∈ es.map f, RunS (xs.map (rnA f)) ls s e n) ↔ (∃ s ∈ ss, ∃ e ∈ es, RunS xs ls s e n) := fun n => by
    constructor
    · rintro ⟨s, h1, e, h2, r⟩
      obtain ⟨s', h1', rfl⟩ := List.mem_map.mp h1
      obtain ⟨e', h2', rfl⟩ := List.mem_map.mp h2
      exact ⟨s', h1', e', h2', (run_rn hx hf _ _ _ _ (hs _ h1') (he _ h2')).mp r⟩
    · rintro ⟨s, h1, e, h2, r⟩
      exact ⟨f s, List.mem_map.mpr ⟨s, h1, rfl⟩, f e, List.mem_map.mpr ⟨e, h2, rfl⟩, (run_rn hx hf _ _ _ _ (hs _ h1) (he _ h2)).mpr r⟩
  exact ⟨LeastO.iff h, LeastO.iff fun n => (h n).symm⟩
/-! ### two beside each other -/
theorem run_left {xs ys : List Arw} {S U : List PySem.Str} (hx : ∀ x ∈ xs, x.s ∈ S ∧ x.t ∈ S) (hy : ∀ y ∈ ys, y.s ∈ U ∧ y.t ∈ U) (d : ∀ s ∈ S, s ∉ U) : ∀ (ls : List PySem.Str) (a b : PySem.Str) (n : Int), a ∈ S → RunS (xs ++ ys) ls a b n → RunS xs ls a b n ∧ b ∈ S
  | [], a, b, n, ha, h => ⟨h, by rw [← h.1]; exact ha⟩
  | l :: ls, a, b, n, ha, h => by
    obtain ⟨z, hz, e1, e2, m, h, e⟩ := h
    rcases List.mem_append.mp hz with hz | hz
    · obtain ⟨r1, r2⟩ := run_left hx hy d ls z.t b m (hx z hz).2 h
      exact ⟨⟨z, hz, e1, e2, m, r1, e⟩, r2⟩
    · exact absurd (hy z hz).1 (d z.s (by rw [e1]; exact ha))
theorem run_comm {xs ys : List Arw} {ls : List PySem.Str} {a b : PySem.Str} {n : Int} (h : RunS (xs ++ ys) ls a b n) : RunS (ys ++ xs) ls a b n := run_sub (fun z hz => by
  rcases List.mem_append.mp hz with h | h
  · exact List.mem_append_right _ h
  · exact List.mem_append_left _ h) _ _ _ _ h
theorem either_iff {xs ys : List Arw} {S U ss es ts fs ls : List PySem.Str} (hx : ∀ x ∈ xs, x.s ∈ S ∧ x.t ∈ S) (hy : ∀ y ∈ ys, y.s ∈ U ∧ y.t ∈ U) (d : ∀ s ∈ S, s ∉ U) (h1 : ∀ s ∈ ss, s ∈ S) (h2 : ∀ s ∈ es, s ∈ S) (h3 : ∀ s ∈ ts, s ∈ U) (h4 : ∀ s ∈ fs, s ∈ U) (n : Int) :
    (∃ s ∈ ss ++ ts, ∃ e ∈ es ++ fs, RunS (xs ++ ys) ls s e n) ↔ ((∃ s ∈ ss, ∃ e ∈ es, RunS xs ls s e n) ∨ ∃ s ∈ ts, ∃ e ∈ fs, RunS ys ls s e n) := by
  have d' : ∀ s ∈ U, s ∉ S := fun s hs c => d s c hs
  constructor
  · rintro ⟨s, hs, e, he, r⟩
    rcases List.mem_append.mp hs with hs | hs
    · obtain ⟨r1, r2⟩ := run_left hx hy d _ _ _ _ (h1 s hs) r
      rcases List.mem_append.mp he with he | he
      · exact .inl ⟨s, hs, e, he, r1⟩
      · exact absurd (h4 e he) (d e r2)
    · obtain ⟨r1, r2⟩ := run_left hy hx d' _ _ _ _ (h3 s hs) (run_comm r)
      rcases List.mem_append.mp he with he | he
      · exact absurd (h2 e he) (d' e r2)
      · exact .inr ⟨s, hs, e, he, r1⟩
  · rintro (⟨s, hs, e, he, r⟩ | ⟨s, hs, e, he, r⟩)
    · exact ⟨s, List.mem_append_left _ hs, e, List.mem_append_left _ he, run_sub (fun z hz => List.mem_append_left _ hz) _ _ _ _ r⟩
    · exact ⟨s, List.mem_append_right _ hs, e, List.mem_append_right _ he, run_sub (fun z hz => List.mem_append_right _ hz) _ _ _ _ r⟩
/-- the lesser of the two that there are -/
def minO (os : List (Option Int)) (o : Option Int) : Prop := LeastO (fun n => some n ∈ os) o
theorem minO_of {xs ys : List Arw} {ss es ts fs ls : List PySem.Str} {a b o : Option Int} (ha : LPr xs ss es ls a) (hb : LPr ys ts fs ls b) (ho : LeastO (fun n => (∃ s ∈ ss, ∃ e ∈ es, RunS xs ls s e n) ∨ ∃ s ∈ ts, ∃ e ∈ fs, RunS ys ls s e n) o) : minO [a, b] o := by
  refine LeastO.both (fun n hn => ?_) (fun n hn => ?_) ho
  · rcases hn with hn | hn
    · cases a with
      | none => exact absurd hn (ha n)
      | some k => exact ⟨k, ha.2 n hn, List.mem_cons_self ..⟩
    · cases b with
      | none => exact absurd hn (hb n)
      | some k => exact ⟨k, hb.2 n hn, List.mem_cons_of_mem _ (List.mem_cons_self ..)⟩
  · simp only [List.mem_cons, List.not_mem_nil, or_false] at hn
    rcases hn with e | e
    · rw [← e] at ha
      exact ⟨n, Int.le_refl _, .inl ha.1⟩
    · rw [← e] at hb
      exact ⟨n, Int.le_refl _, .inr hb.1⟩
theorem minO_comm {a b o : Option Int} (h : minO [a, b] o) : minO [b, a] o := LeastO.iff (fun n => by simp only [List.mem_cons, List.not_mem_nil, or_false]; exact Or.comm) h
/-! ### specs -/
def spNameOf : Sp := fun vs H Q _ => ∃ n : Nat, vs = [.int (n : Int)] ∧ n < 676 ∧ Q (.str (nmOf n)) H
def RnOf (g : PySem.Str) (M : MachV) (f : PySem.Str → PySem.Str) : Prop := (∀ x ∈ M.sta, ∃ k, k < 26 ∧ f x = g ++ nmOf k) ∧ ∀ a ∈ M.sta, ∀ b ∈ M.sta, f a = f b → a = b
def spRenamed (C : Addr) : Sp := fun vs H Q _ => ∃ (m : Addr) (M : MachV) (g : PySem.Str), vs = [.ref m, .str g] ∧ IsMach C H m M ∧ MFine M ∧ Asc M.sta ∧ M.sta.length ≤ 20 ∧ Lt g ∧
  ∀ (q : Addr) (R : MachV) (f : PySem.Str → PySem.Str) (H' : Hp), H q = none → IsMach C H' q R → MOf R (M.ars.map (rnA f)) (M.sts.map f) (M.ens.map f) → RnOf g M f → Same H H' → Q (.ref q) H'
theorem nm_gk {g : PySem.Str} (h : Lt g) {k : Nat} (hk : k < 26) : Nm (g ++ nmOf k) := by
  have e : TL.tl (nmOf k) = [97 + k] := nm_tl1 hk
  have l : (nmOf k).length = 1 := nm_len1 hk
  refine ⟨by rw [len_app]; omega, by rw [len_app, h.1, l]; omega, sgAll_app h.2 fun c hc => ?_⟩
  rw [e] at hc
  rw [List.mem_singleton.mp hc]
  exact ⟨by omega, by omega⟩
theorem nm_inj' {j k : Nat} (e : TL.tl (nmOf j) = TL.tl (nmOf k)) : j = k := by
  by_cases hj : j < 26 <;> by_cases hk : k < 26
  · rw [nm_tl1 hj, nm_tl1 hk] at e
    simp only [List.cons.injEq, and_true] at e
    omega
  · rw [nm_tl1 hj, nm_tl2 (by omega)] at e
    simp at e
  · rw [nm_tl2 (by omega), nm_tl1 hk] at e
    simp at e
  · rw [nm_tl2 (by omega), nm_tl2 (by omega)] at e
    simp only [List.cons.injEq, and_true] at e
    omega
theorem gk_inj {g : PySem.Str} {j k : Nat} (h : g ++ nmOf j = g ++ nmOf k) : j = k := by
  have e := congrArg TL.tl h
  rw [TL.tl_append, TL.tl_append] at e
  exact nm_inj' (List.append_cancel_left e)
theorem gk_ne {a b : PySem.Str} (ha : Lt a) (hb : Lt b) (n : a ≠ b) {j k : Nat} : a ++ nmOf j ≠ b ++ nmOf k := by
  intro h
  have e := congrArg TL.tl h
  rw [TL.tl_append, TL.tl_append] at e
  have l1 : (TL.tl a).length = (TL.tl b).length := by rw [← len_tl, ← len_tl, ha.1, hb.1]
  exact n (ext_tl (List.append_inj_left e l1))
theorem rn_ok {g : PySem.Str} {M : MachV} {f : PySem.Str → PySem.Str} (hg : Lt g) (h : RnOf g M f) (hF : MFine M) : (∀ x ∈ M.ars.map (rnA f), x.Ok) ∧ (∀ s ∈ M.sta.map f, Nm s) ∧ (∀ s ∈ M.sts.map f, s ∈ M.sta.map f) ∧ (∀ s ∈ M.ens.map f, s ∈ M.sta.map f) ∧ ∀ x ∈ M.ars.map (rnA f), x.s ∈ M.sta.map f ∧ x.t ∈ M.sta.map f := by
  have hn : ∀ x ∈ M.sta, Nm (f x) := fun x hx => by
    obtain ⟨k, hk, e⟩ := h.1 x hx
    rw [e]
    exact nm_gk hg hk
  refine ⟨fun x hx => ?_, fun s hs => ?_, fun s hs => ?_, fun s hs => ?_, fun x hx => ?_⟩
  · obtain ⟨y, hy, rfl⟩ := List.mem_map.mp hx
    have o := hF.ok y hy
    exact ⟨hn _ (hF.ar y hy).1, o.l, hn _ (hF.ar y hy).2, o.c0, o.c1⟩
  · obtain ⟨y, hy, rfl⟩ := List.mem_map.mp hs
    exact hn y hy
  · obtain ⟨y, hy, rfl⟩ := List.mem_map.mp hs
    exact List.mem_map.mpr ⟨y, hF.st y hy, rfl⟩
  · obtain ⟨y, hy, rfl⟩ := List.mem_map.mp hs
    exact List.mem_map.mpr ⟨y, hF.en y hy, rfl⟩
  · obtain ⟨y, hy, rfl⟩ := List.mem_map.mp hx
    exact ⟨List.mem_map.mpr ⟨_, (hF.ar y hy).1, rfl⟩, List.mem_map.mpr ⟨_, (hF.ar y hy).2, rfl⟩⟩
/-- R reads what M or N reads, for the lesser price -/
structure EitherOf (R M N : MachV) : Prop where
  price : ∀ (ls : List PySem.Str) (a b o : Option Int), LPr M.ars M.sts M.ens ls a → LPr N.ars N.sts N.ens ls b → LeastO (fun n => ∃ e ∈ R.ens, Rch R.ars R.sts ls e n) o → minO [a, b] o
  len : R.sta.length ≤ M.sta.length + N.sta.length
theorem either_of {R M N M' N' : MachV} {f g : PySem.Str → PySem.Str} (hM : MFine M) (hN : MFine N) (rf : RnOf "a" M f) (rg : RnOf "b" N g) (h1 : MOf M' (M.ars.map (rnA f)) (M.sts.map f) (M.ens.map f)) (h2 : MOf N' (N.ars.map (rnA g)) (N.sts.map g) (N.ens.map g))
    (hR : MOf R (M'.ars ++ N'.ars) (M'.sts ++ N'.sts) (M'.ens ++ N'.ens)) (la : Lt "a") (lb : Lt "b") : EitherOf R M N := by
  obtain ⟨a1, a2, a3, a4, a5⟩ := rn_ok la rf hM
  obtain ⟨b1, b2, b3, b4, b5⟩ := rn_ok lb rg hN
  have dis : ∀ s ∈ M.sta.map f, s ∉ N.sta.map g := fun s hs c => by
    obtain ⟨x, hx, rfl⟩ := List.mem_map.mp hs
    obtain ⟨y, hy, e⟩ := List.mem_map.mp c
    obtain ⟨j, _, ej⟩ := rf.1 x hx
    obtain ⟨k, _, ek⟩ := rg.1 y hy
    rw [ej, ek] at e
    exact gk_ne lb la (by decide) e
  have hxs : ∀ x ∈ M'.ars, x.s ∈ M.sta.map f ∧ x.t ∈ M.sta.map f := fun x hx => a5 x (h1.ars.sub x hx).1
  have hys : ∀ x ∈ N'.ars, x.s ∈ N.sta.map g ∧ x.t ∈ N.sta.map g := fun x hx => b5 x (h2.ars.sub x hx).1
  have s1 : ∀ s ∈ M'.sts, s ∈ M.sta.map f := fun s hs => a3 s ((h1.sts.2 s).mp hs)
  have s2 : ∀ s ∈ M'.ens, s ∈ M.sta.map f := fun s hs => a4 s ((h1.ens.2 s).mp hs)
  have s3 : ∀ s ∈ N'.sts, s ∈ N.sta.map g := fun s hs => b3 s ((h2.sts.2 s).mp hs)
  have s4 : ∀ s ∈ N'.ens, s ∈ N.sta.map g := fun s hs => b4 s ((h2.ens.2 s).mp hs)
  refine ⟨fun ls a b o ha hb ho => ?_, ?_⟩
  · have k1 : LPr M'.ars M'.sts M'.ens ls a := (LPr.cheap h1.ars h1.sts.2 h1.ens.2).mpr ((LPr.rn hM.ar rf.2 hM.st hM.en).mpr ha)
    have k2 : LPr N'.ars N'.sts N'.ens ls b := (LPr.cheap h2.ars h2.sts.2 h2.ens.2).mpr ((LPr.rn hN.ar rg.2 hN.st hN.en).mpr hb)
    exact minO_of k1 k2 (LeastO.iff (fun n => either_iff hxs hys dis s1 s2 s3 s4 n) (hR.price ho))
  · have q := nodup_le (ts := M.sta.map f ++ N.sta.map g) (asc_nodup hR.sta.1) fun s hs => by
      rcases (hR.sta.2 s).mp hs with h | h | ⟨x, hx, h⟩
      · rcases List.mem_append.mp h with h | h
        · exact List.mem_append_left _ (s1 s h)
        · exact List.mem_append_right _ (s3 s h)
      · rcases List.mem_append.mp h with h | h
        · exact List.mem_append_left _ (s2 s h)
        · exact List.mem_append_right _ (s4 s h)
      · rcases List.mem_append.mp (hR.ars.sub x hx).1 with hx | hx
        · have := hxs x hx
          refine List.mem_append_left _ ?_
          rcases h with h | h
          · rw [h]
            exact this.1
          · rw [h]
            exact this.2
        · have := hys x hx
          refine List.mem_append_right _ ?_
          rcases h with h | h
          · rw [h]
            exact this.1
          · rw [h]
            exact this.2
    rw [List.length_append, List.length_map, List.length_map] at q
    exact q
theorem lt_ab : Lt "a" ∧ Lt "b" := ⟨abcd_lt _ (by decide +kernel), abcd_lt _ (by decide +kernel)⟩
def spEither (C : Addr) : Sp := fun vs H Q _ => ∃ (m n : Addr) (M N : MachV), vs = [.ref m, .ref n] ∧ IsMach C H m M ∧ IsMach C H n N ∧ MFine M ∧ MFine N ∧ Asc M.sta ∧ Asc N.sta ∧ M.sta.length ≤ 20 ∧ N.sta.length ≤ 20 ∧ M.ars.length ≤ 100 ∧ N.ars.length ≤ 100 ∧
  ∀ (q : Addr) (R : MachV) (H' : Hp), H q = none → IsMach C H' q R → MFine R → EitherOf R M N → Same H H' → Q (.ref q) H'
/-- two machines of the same -/
def EqMach (C : Addr) (a b : Addr) (H : Hp) : Prop := ∃ M N, IsMach C H a M ∧ IsMach C H b N ∧ MFine M ∧ M.ars = N.ars ∧ M.sts = N.sts ∧ M.ens = N.ens
theorem MOf.same {M N : MachV} {xs : List Arw} {ss es : List PySem.Str} (h : MOf M xs ss es) (k : MOf N xs ss es) : M.ars = N.ars ∧ M.sts = N.sts ∧ M.ens = N.ens :=
  ⟨h.ars.uniq k.ars, asc_uniq h.sts.1 k.sts.1 fun z => (h.sts.2 z).trans (k.sts.2 z).symm, asc_uniq h.ens.1 k.ens.1 fun z => (h.ens.2 z).trans (k.ens.2 z).symm⟩
theorem shaped_tars {xs : List Arw} (h : ∀ x ∈ xs, x.Ok) : SeqAt.shaped (.tuple (xs.map fun x => PyData.tuple [.str x.s, .str x.l, .str x.t, .int x.c])) = true := by
  refine shaped_of2 (b := false) fun d hd => ?_
  obtain ⟨x, hx, rfl⟩ := List.mem_map.mp hd
  have o := h x hx
  exact lay_arw o.s.2.2 o.l.2 o.t.2.2
theorem eqv_tars (xs : List Arw) : PyData.eqv (.tuple (xs.map fun x => PyData.tuple [.str x.s, .str x.l, .str x.t, .int x.c])) (.tuple (xs.map fun x => PyData.tuple [.str x.s, .str x.l, .str x.t, .int x.c])) = true := by
  simp only [PyData.eqv]
  induction xs with
  | nil => simp [PyData.eqvAll]
  | cons x xs ih => simp [PyData.eqvAll, PyData.eqv, ih]
end Bz
namespace Bz
open PySem PySem.Spec PyProof.Rows L2
theorem az26 : ∀ i : Fin 26, ((("abcdefghijklmnopqrstuvwxyz" : PySem.Str)).cps.toList)[i.val]? = some (97 + i.val) := by decide +kernel
theorem az_len : (("abcdefghijklmnopqrstuvwxyz" : PySem.Str)).length = 26 := by decide +kernel
theorem az_at {n : Nat} (h : n < 26) : atI (("abcdefghijklmnopqrstuvwxyz" : PySem.Str)).cps.toList (Int.fmod (n : Int) (((("abcdefghijklmnopqrstuvwxyz" : PySem.Str)).length : Nat) : Int)) = some (97 + n) := by
  have e : Int.fmod (n : Int) (((("abcdefghijklmnopqrstuvwxyz" : PySem.Str)).length : Nat) : Int) = (n : Int) := by
    rw [az_len, Int.fmod_eq_emod_of_nonneg _ (by omega)]
    exact Int.emod_eq_of_lt (by omega) (by omega)
  rw [e]
  exact atI_nat (az26 ⟨n, h⟩)
theorem az_atm (n : Nat) : atI (("abcdefghijklmnopqrstuvwxyz" : PySem.Str)).cps.toList (Int.fmod (n : Int) (((("abcdefghijklmnopqrstuvwxyz" : PySem.Str)).length : Nat) : Int)) = some (97 + n % 26) := by
  have e : Int.fmod (n : Int) (((("abcdefghijklmnopqrstuvwxyz" : PySem.Str)).length : Nat) : Int) = ((n % 26 : Nat) : Int) := by
    rw [az_len, Int.fmod_eq_emod_of_nonneg _ (by omega)]
    rfl
  rw [e]
  exact atI_nat (az26 ⟨n % 26, by omega⟩)
theorem idx_eq {L : List PySem.Str} (h : L.Nodup) {i : Nat} {u : PySem.Str} (e : L[i]? = some u) : L.idxOf u = i := by
  obtain ⟨hi, eu⟩ := List.getElem?_eq_some_iff.mp e
  have hj : L.idxOf u < L.length := List.idxOf_lt_length_of_mem (by rw [← eu]; exact List.getElem_mem hi)
  have ej : L[L.idxOf u] = u := List.getElem_idxOf hj
  have pw := List.pairwise_iff_getElem.mp h
  rcases Nat.lt_trichotomy (L.idxOf u) i with c | c | c
  · exact absurd (ej.trans eu.symm) (pw _ _ hj hi c)
  · exact c
  · exact absurd (eu.trans ej.symm) (pw _ _ hi hj c)
theorem idx_inj {L : List PySem.Str} {a b : PySem.Str} (ha : a ∈ L) (hb : b ∈ L) (e : L.idxOf a = L.idxOf b) : a = b := by
  have h1 : L.idxOf a < L.length := List.idxOf_lt_length_of_mem ha
  have h2 : L.idxOf b < L.length := List.idxOf_lt_length_of_mem hb
  have e1 : L[L.idxOf a] = a := List.getElem_idxOf h1
  have e2 : L[L.idxOf b] = b := List.getElem_idxOf h2
  rw [← e1, ← e2]
  simp only [e]
end Bz

namespace Bz
open PySem PySem.Spec PyProof.Rows L2
/-! ### what a law drew, in general -/
structure GMade (xs : List Arw) (ss es ns : List PySem.Str) : Prop where
  ok : ∀ x ∈ xs, x.Ok
  nm : ∀ s ∈ ns, Nm s
  nl : ns.length ≤ 10
  xl : xs.length ≤ 20
  sl : ss.length ≤ 10
  el : es.length ≤ 10
  si : ∀ s ∈ ss, s ∈ ns
  ei : ∀ s ∈ es, s ∈ ns
  ai : ∀ x ∈ xs, x.s ∈ ns ∧ x.t ∈ ns
/-- at q, none of it at p -/
def HMade (K : PySem.W.Frag) (H : Hp) (p q : Addr) (xs : List Arw) (ss es ns : List PySem.Str) : Prop := ∃ a b e us, MadeL K H q a b e us xs ss es ∧ a ≠ p ∧ b ≠ p ∧ e ≠ p ∧ GMade xs ss es ns
theorem HMade.same {K : PySem.W.Frag} {H H' : Hp} {p q : Addr} {xs : List Arw} {ss es ns : List PySem.Str} (h : HMade K H p q xs ss es ns) (e : Same H H') : HMade K H' p q xs ss es ns := by
  obtain ⟨a, b, c, us, m, r⟩ := h
  exact ⟨a, b, c, us, m.same e, r⟩
theorem HMade.ext {K : PySem.W.Frag} {H H' : Hp} {p q : Addr} {c : Nat} {xs : List Arw} {ss es ns : List PySem.Str} (h : HMade K H p q xs ss es ns) (s : Src H p c) (e : Ext p H H') : HMade K H' p q xs ss es ns := by
  obtain ⟨a, b, z, us, m, n1, n2, n3, r⟩ := h
  exact ⟨a, b, z, us, m.ext s n1 n2 n3 e, n1, n2, n3, r⟩
theorem GMade.fine {M : MachV} {xs : List Arw} {ss es ns : List PySem.Str} (g : GMade xs ss es ns) (h : MOf M xs ss es) : MFine M ∧ M.sta.length ≤ 10 ∧ M.ars.length ≤ 20 := by
  have nl := g.nl
  have xl := g.xl
  refine ⟨fine_of h g.ok (by omega) g.nm (by omega) g.si g.ei g.ai, ?_, ?_⟩
  · refine Nat.le_trans (nodup_le (asc_nodup h.sta.1) fun k hk => ?_) nl
    rcases (h.sta.2 k).mp hk with h1 | h1 | ⟨x, hx, h1 | h1⟩
    · exact g.si k h1
    · exact g.ei k h1
    · rw [h1]
      exact (g.ai x (h.ars.sub x hx).1).1
    · rw [h1]
      exact (g.ai x (h.ars.sub x hx).1).2
  · exact Nat.le_trans (nodup_le (cheap_nodup h.ars) fun y hy => (h.ars.sub y hy).1) xl
theorem cutV_tk (xs : List V) (k : Nat) : cutV xs none (some (k : Int)) = xs.take k := by
  unfold cutV
  have e1 : HT.sIx xs.length 0 none = 0 := rfl
  have e2 : HT.sIx xs.length xs.length (some (k : Int)) = min k xs.length := sIx_min
  rw [e1, e2, List.drop_zero, Nat.sub_zero]
  by_cases c : k ≤ xs.length
  · rw [Nat.min_eq_left c]
  · rw [Nat.min_eq_right (by omega), List.take_of_length_le (Nat.le_refl _), List.take_of_length_le (by omega)]
theorem cutV_dr (xs : List V) (k : Nat) : cutV xs (some (k : Int)) none = xs.drop k := by
  unfold cutV
  have e1 : HT.sIx xs.length 0 (some (k : Int)) = min k xs.length := sIx_min
  have e2 : HT.sIx xs.length xs.length none = xs.length := rfl
  rw [e1, e2]
  by_cases c : k ≤ xs.length
  · rw [Nat.min_eq_left c]
    exact List.take_of_length_le (by rw [List.length_drop]; omega)
  · rw [Nat.min_eq_right (by omega), List.drop_of_length_le (Nat.le_refl _), List.drop_of_length_le (by omega)]
    simp
theorem paired_take {α β : Type} {R : α → β → Prop} : ∀ {as : List α} {bs : List β} (k : Nat), Paired R as bs → Paired R (as.take k) (bs.take k)
  | _, _, 0, _ => .nil
  | _, _, k + 1, .nil => .nil
  | _, _, k + 1, .cons h t => .cons h (paired_take k t)
theorem paired_drop {α β : Type} {R : α → β → Prop} : ∀ {as : List α} {bs : List β} (k : Nat), Paired R as bs → Paired R (as.drop k) (bs.drop k)
  | _, _, 0, h => h
  | _, _, k + 1, .nil => .nil
  | _, _, k + 1, .cons _ t => paired_drop k t
/-- drawn anew: some arrows of the one and some of the other -/
theorem GMade.mix {xs ys : List Arw} {ss es ts fs ns ms : List PySem.Str} (g : GMade xs ss es ns) (h : GMade ys ts fs ms) (l : ns.length ≤ 5) (k : ms.length ≤ 5) (x : xs.length ≤ 10) : GMade (xs.drop 1 ++ ys.take 2) ss (es.take 1) (ns ++ ms) where
  ok := fun z hz => (List.mem_append.mp hz).elim (fun h1 => g.ok z (List.mem_of_mem_drop h1)) fun h1 => h.ok z (List.mem_of_mem_take h1)
  nm := fun z hz => (List.mem_append.mp hz).elim (g.nm z) (h.nm z)
  nl := by rw [List.length_append]; omega
  xl := by rw [List.length_append, List.length_drop, List.length_take]; omega
  sl := g.sl
  el := by have := g.el; rw [List.length_take]; omega
  si := fun z hz => List.mem_append_left _ (g.si z hz)
  ei := fun z hz => List.mem_append_left _ (g.ei z (List.mem_of_mem_take hz))
  ai := fun z hz => by
    rcases List.mem_append.mp hz with h1 | h1
    · have q := g.ai z (List.mem_of_mem_drop h1)
      exact ⟨List.mem_append_left _ q.1, List.mem_append_left _ q.2⟩
    · have q := h.ai z (List.mem_of_mem_take h1)
      exact ⟨List.mem_append_right _ q.1, List.mem_append_right _ q.2⟩
end Bz
namespace Bz
open PySem PySem.Spec PyProof.Rows L2
theorem made_h {K : PySem.W.Frag} {H : Hp} {p q : Addr} {xs : List Arw} {ss es : List PySem.Str} {m n : Int} (h : Made K p H q xs ss es) (k : MOk xs ss es m n) (hm : m ≤ 4) (hn : n ≤ 10) : ∃ ns, HMade K H p q xs ss es ns ∧ (ns.length : Int) ≤ m ∧ (xs.length : Int) ≤ n := by
  obtain ⟨a1, a2, a3, vs, nq, n1, n2, n3, hq, h1, hA, h2, h3⟩ := h
  obtain ⟨ns, hn1, hn2, hn3, hn4, hn5, hn6⟩ := k.nms
  have l := k.len
  have sl := k.slen
  have el := k.elen
  exact ⟨ns, ⟨a1, a2, a3, vs, ⟨hq, SqL.of h1, hA.s, SqL.of h2, SqL.of h3⟩, n1, n2, n3, ⟨ok_of k, hn1, by omega, by omega, by omega, by omega, hn5, hn6, hn4⟩⟩, hn2, l.2⟩
end Bz

namespace Bz
open PySem PySem.Spec PyProof.Rows L2
/-! ### states that arrows lead to -/
theorem klistD {X : Cx} (hc : X.calm = true) : CallR X (.type "list") (fun xs H Q => ∃ (a : Addr) (kvs : List (Ky × V)), xs = [.ref a] ∧ Rd H a (.dK kvs) ∧ ∀ p, H p = none → Q (.ref p) (upd H p (.lst (kvs.map fun kv => kV kv.1)))) := call_listD hc
abbrev fT (s : PySem.Str) : Ky × V := (.inr s, .bl true)
theorem fT_mem {F : List PySem.Str} {u : PySem.Str} : (Sum.inr u : Ky) ∈ (F.map fT).map (·.1) ↔ u ∈ F := by
  rw [List.map_map, List.mem_map]
  exact ⟨fun ⟨s, hs, e⟩ => by rw [← Sum.inr.inj (show (Sum.inr s : Ky) = .inr u from e)]; exact hs, fun h => ⟨u, h, rfl⟩⟩
theorem put_fT_new {F : List PySem.Str} {u : PySem.Str} (h : u ∉ F) : putK (F.map fT) (.inr u) (.bl true) = (F ++ [u]).map fT := by
  rw [putK_new (fun c => h (fT_mem.mp c)), List.map_append]
  rfl
theorem put_fT_in {F : List PySem.Str} {u : PySem.Str} (h : u ∈ F) : putK (F.map fT) (.inr u) (.bl true) = F.map fT := by
  unfold putK
  have e : ((F.map fT).any fun kv => decide (kv.1 = (Sum.inr u : Ky))) = true := List.any_eq_true.mpr ⟨fT u, List.mem_map.mpr ⟨u, h, rfl⟩, decide_eq_true rfl⟩
  rw [if_pos e, List.map_map]
  refine List.map_congr_left fun s _ => ?_
  show (if (Sum.inr s : Ky) = .inr u then ((Sum.inr s : Ky), V.bl true) else fT s) = fT s
  split <;> rfl
theorem val_fT {F : List PySem.Str} {u : PySem.Str} : valV (F.map fT) (.inr u) = if u ∈ F then some (.bl true) else none := by
  by_cases h : u ∈ F
  · rw [if_pos h]
    unfold valV
    have e : ((F.map fT).find? fun kv => decide (kv.1 = (Sum.inr u : Ky))).isSome = true := by
      rw [List.find?_isSome]
      exact ⟨fT u, List.mem_map.mpr ⟨u, h, rfl⟩, decide_eq_true rfl⟩
    obtain ⟨kv, hkv⟩ := Option.isSome_iff_exists.mp e
    obtain ⟨s, _, es⟩ := List.mem_map.mp (List.mem_of_find?_eq_some hkv)
    rw [hkv, ← es]
    rfl
  · rw [if_neg h]
    exact valV_none fun c => h (fT_mem.mp c)
theorem nodup_snoc2 {α : Type} {os : List α} {u : α} (h : os.Nodup) (c : u ∉ os) : (os ++ [u]).Nodup := by
  rw [List.nodup_append]
  refine ⟨h, by simp, fun a ha b hb => ?_⟩
  rw [List.mem_singleton.mp hb]
  intro e
  exact c (by rw [← e]; exact ha)
theorem nodup_fst {α β : Type} {ps : List (α × β)} (h : (ps.map (·.1)).Nodup) {p r : α × β} (hp : p ∈ ps) (hr : r ∈ ps) (e : p.1 = r.1) : p = r := by
  induction ps with
  | nil => cases hp
  | cons z ps ih =>
    rw [List.map_cons] at h
    obtain ⟨h1, h2⟩ := List.nodup_cons.mp h
    rcases List.mem_cons.mp hp with e1 | hp <;> rcases List.mem_cons.mp hr with e2 | hr
    · rw [e1, e2]
    · exact absurd (List.mem_map.mpr ⟨r, hr, by rw [← e, e1]⟩) h1
    · exact absurd (List.mem_map.mpr ⟨p, hp, by rw [e, e2]⟩) h1
    · exact ih h2 hp hr
theorem nodup_snd {α β : Type} {ps : List (α × β)} (h : (ps.map (·.2)).Nodup) {p r : α × β} (hp : p ∈ ps) (hr : r ∈ ps) (e : p.2 = r.2) : p = r := by
  induction ps with
  | nil => cases hp
  | cons z ps ih =>
    rw [List.map_cons] at h
    obtain ⟨h1, h2⟩ := List.nodup_cons.mp h
    rcases List.mem_cons.mp hp with e1 | hp <;> rcases List.mem_cons.mp hr with e2 | hr
    · rw [e1, e2]
    · exact absurd (List.mem_map.mpr ⟨r, hr, by rw [← e, e1]⟩) h1
    · exact absurd (List.mem_map.mpr ⟨p, hp, by rw [e, e2]⟩) h1
    · exact ih h2 hp hr
/-- the dict of what each state leads to -/
structure NxInv (H H' : Hp) (D : Addr) (ps : List (PySem.Str × Addr)) (c : PySem.Str → List PySem.Str) : Prop where
  d : H' D = some (.dK (ps.map pk))
  nk : (ps.map (·.1)).Nodup
  na : (ps.map (·.2)).Nodup
  each : ∀ p ∈ ps, p.2 ≠ D ∧ H p.2 = none ∧ H' p.2 = some (.lst ((c p.1).map V.str))
  no : ∀ s, s ∉ ps.map (·.1) → c s = []
  same : Same H H'
  hD : H D = none
theorem pk_val {ps : List (PySem.Str × Addr)} {s : PySem.Str} {q : Addr} (nk : (ps.map (·.1)).Nodup) (h : (s, q) ∈ ps) : valV (ps.map pk) (.inr s) = some (.ref q) := by
  induction ps with
  | nil => cases h
  | cons p ps ih =>
    rw [List.map_cons] at nk
    obtain ⟨n1, n2⟩ := List.nodup_cons.mp nk
    rcases List.mem_cons.mp h with e | h
    · rw [← e]
      exact valV_pos rfl
    · have ne : p.1 ≠ s := fun e => n1 (List.mem_map.mpr ⟨(s, q), h, e.symm⟩)
      have := ih n2 h
      unfold valV at this ⊢
      rw [List.map_cons, List.find?_cons_of_neg (by simpa using ne)]
      exact this
theorem NxInv.new {H H' : Hp} {D q : Addr} {ps : List (PySem.Str × Addr)} {c : PySem.Str → List PySem.Str} {s t : PySem.Str} (h : NxInv H H' D ps c) (hs : s ∉ ps.map (·.1)) (hq : H' q = none) :
    NxInv H (upd (upd (upd H' q (.lst [])) D (.dK (putK (ps.map pk) (.inr s) (.ref q)))) q (.lst [.str t])) D (ps ++ [(s, q)]) fun z => if z = s then c s ++ [t] else c z := by
  have nqD : q ≠ D := fun e => by
    rw [e, h.d] at hq
    cases hq
  have hHq := h.same.free hq
  have hps : ∀ p ∈ ps, p.2 ≠ q := fun p hp e => by
    have := (h.each p hp).2.2
    rw [e, hq] at this
    cases this
  have ep : putK (ps.map pk) (.inr s) (.ref q) = (ps ++ [(s, q)]).map pk := by
    rw [putK_new (fun c => hs (pk_mem.mp c)), List.map_append]
    rfl
  refine ⟨?_, ?_, ?_, fun p hp => ?_, fun z hz => ?_, ?_, h.hD⟩
  · rw [upd_ne nqD.symm, ← ep]
    exact upd_same
  · rw [List.map_append]
    exact nodup_snoc2 h.nk hs
  · rw [List.map_append]
    exact nodup_snoc2 h.na fun c => by
      obtain ⟨p, hp, e⟩ := List.mem_map.mp c
      exact hps p hp e
  · rcases List.mem_append.mp hp with hp | hp
    · obtain ⟨a, b, d⟩ := h.each p hp
      refine ⟨a, b, ?_⟩
      have ne : p.1 ≠ s := fun e => hs (List.mem_map.mpr ⟨p, hp, e⟩)
      rw [if_neg ne, upd_ne (hps p hp), upd_ne a, upd_ne (hps p hp)]
      exact d
    · rw [List.mem_singleton.mp hp]
      refine ⟨nqD, hHq, ?_⟩
      rw [if_pos rfl, h.no s hs]
      exact upd_same
  · have n1 : z ∉ ps.map (·.1) := fun m => hz (by rw [List.map_append]; exact List.mem_append_left _ m)
    have n2 : z ≠ s := fun e => hz (by rw [List.map_append]; exact List.mem_append_right _ (by rw [e]; exact List.mem_singleton.mpr rfl))
    rw [if_neg n2]
    exact h.no z n1
  · exact same_mut (same_mut (h.same.trans (same_new hq)) h.hD) hHq
theorem NxInv.old {H H' : Hp} {D q q0 : Addr} {ps : List (PySem.Str × Addr)} {c : PySem.Str → List PySem.Str} {s t : PySem.Str} (h : NxInv H H' D ps c) (hp : (s, q) ∈ ps) (hq : H' q0 = none) :
    NxInv H (upd (upd H' q0 (.lst [])) q (.lst ((c s).map V.str ++ [.str t]))) D ps fun z => if z = s then c s ++ [t] else c z := by
  obtain ⟨a, b, d⟩ := h.each _ hp
  have a' : q ≠ D := a
  have n0 : ∀ {p : Addr} {o : HO}, H' p = some o → p ≠ q0 := fun e => ne_of_none e hq
  refine ⟨?_, h.nk, h.na, fun p hp' => ?_, fun z hz => ?_, ?_, h.hD⟩
  · rw [upd_ne a'.symm, upd_ne (n0 h.d)]
    exact h.d
  · obtain ⟨a2, b2, d2⟩ := h.each p hp'
    refine ⟨a2, b2, ?_⟩
    by_cases e : p = (s, q)
    · rw [e, if_pos rfl, List.map_append]
      exact upd_same
    · have n1 : p.1 ≠ s := fun e1 => e (nodup_fst h.nk hp' hp e1)
      have n2 : p.2 ≠ q := fun e1 => e (nodup_snd h.na hp' hp e1)
      rw [if_neg n1, upd_ne n2, upd_ne (n0 d2)]
      exact d2
  · have n2 : z ≠ s := fun e => hz (List.mem_map.mpr ⟨(s, q), hp, e.symm⟩)
    rw [if_neg n2]
    exact h.no z hz
  · exact same_mut (h.same.trans (same_new hq)) b
def spReached (K : PySem.W.Frag) : Sp := fun vs H Q _ => ∃ (b a : Addr) (us : List V) (xs : List Arw) (ss : List PySem.Str), vs = [.ref b, .ref a] ∧ SqE K H b (ss.map V.str) ∧ SqE K H a us ∧ ArS H us xs ∧ ss.length ≤ 400 ∧ xs.length ≤ 1000 ∧
  ∀ (d : Addr) (F : List PySem.Str) (H' : Hp), H d = none → H' d = some (.dK (F.map fT)) → F.Nodup → (∀ s ∈ ss, s ∈ F) → (∀ x ∈ xs, x.s ∈ F → x.t ∈ F) → (∀ s ∈ F, s ∈ ss ++ xs.map Arw.t) → Same H H' → Q (.ref d) H'
/-- what a search keeps: F found, W still to be looked at -/
structure Sch (xs : List Arw) (ss F W : List PySem.Str) : Prop where
  nd : F.Nodup
  st : ∀ s ∈ ss, s ∈ F
  wf : ∀ s ∈ W, s ∈ F
  cl : ∀ x ∈ xs, x.s ∈ F → x.s ∉ W → x.t ∈ F
  sub : ∀ s ∈ F, s ∈ ss ++ xs.map Arw.t
theorem Sch.len {xs : List Arw} {ss F W : List PySem.Str} (h : Sch xs ss F W) : F.length ≤ ss.length + xs.length := by
  have := nodup_le h.nd h.sub
  rw [List.length_append, List.length_map] at this
  exact this
/-- within a turn: from F0, W0 on, the first of ts are found -/
structure Trn (xs : List Arw) (ss F0 W0 ts F W : List PySem.Str) : Prop where
  nd : F.Nodup
  f0 : ∀ s ∈ F0, s ∈ F
  w0 : ∀ s ∈ W0, s ∈ W
  fw : ∀ s ∈ F, s ∈ F0 ∨ s ∈ W
  wf : ∀ s ∈ W, s ∈ F
  ts : ∀ s ∈ ts, s ∈ F
  sub : ∀ s ∈ F, s ∈ ss ++ xs.map Arw.t
  len : W.length + F0.length = W0.length + F.length
theorem Trn.turn {xs : List Arw} {ss F0 W0 F W : List PySem.Str} {here : PySem.Str} (h : Sch xs ss F0 (W0 ++ [here])) (t : Trn xs ss F0 W0 ((xs.filter fun x => decide (x.s = here)).map Arw.t) F W) : Sch xs ss F W where
  nd := t.nd
  st := fun s hs => t.f0 s (h.st s hs)
  wf := t.wf
  cl := fun x hx hf hw => by
    by_cases e : x.s = here
    · exact t.ts _ (List.mem_map.mpr ⟨x, List.mem_filter.mpr ⟨hx, decide_eq_true e⟩, rfl⟩)
    · rcases t.fw _ hf with h1 | h1
      · refine t.f0 _ (h.cl x hx h1 fun c => ?_)
        rcases List.mem_append.mp c with c | c
        · exact hw (t.w0 _ c)
        · exact e (List.mem_singleton.mp c)
      · exact absurd h1 hw
  sub := t.sub
end Bz
namespace Bz
open PySem PySem.Spec PyProof.Rows L2
/-- the states that are on some run -/
structure Kept (xs : List Arw) (ss es F1 F2 : List PySem.Str) : Prop where
  s1 : ∀ s ∈ ss, s ∈ F1
  c1 : ∀ x ∈ xs, x.s ∈ F1 → x.t ∈ F1
  s2 : ∀ s ∈ es, s ∈ F2
  c2 : ∀ x ∈ xs, x.t ∈ F2 → x.s ∈ F2
  sub : ∀ s ∈ F1, s ∈ ss ++ xs.map Arw.t
def kp (F1 F2 : List PySem.Str) (z : PySem.Str) : Bool := decide (z ∈ F1) && decide (z ∈ F2)
theorem kp_iff {F1 F2 : List PySem.Str} {z : PySem.Str} : kp F1 F2 z = true ↔ z ∈ F1 ∧ z ∈ F2 := by
  unfold kp
  rw [Bool.and_eq_true, decide_eq_true_eq, decide_eq_true_eq]
def kpA (F1 F2 : List PySem.Str) (x : Arw) : Bool := kp F1 F2 x.s && kp F1 F2 x.t
theorem run_kept {xs : List Arw} {ss es F1 F2 : List PySem.Str} (h : Kept xs ss es F1 F2) : ∀ (ls : List PySem.Str) (a b : PySem.Str) (n : Int), a ∈ F1 → b ∈ F2 → RunS xs ls a b n → RunS (xs.filter (kpA F1 F2)) ls a b n ∧ a ∈ F2 ∧ b ∈ F1
  | [], a, b, n, ha, hb, r => ⟨r, by rw [r.1]; exact hb, by rw [← r.1]; exact ha⟩
  | l :: ls, a, b, n, ha, hb, r => by
    obtain ⟨x, hx, e1, e2, m, r, e⟩ := r
    have t1 := h.c1 x hx (by rw [e1]; exact ha)
    obtain ⟨r', t2, b1⟩ := run_kept h ls x.t b m t1 hb r
    have a2 := h.c2 x hx t2
    refine ⟨⟨x, List.mem_filter.mpr ⟨hx, ?_⟩, e1, e2, m, r', e⟩, by rw [← e1]; exact a2, b1⟩
    unfold kpA
    rw [kp_iff.mpr ⟨by rw [e1]; exact ha, a2⟩, kp_iff.mpr ⟨t1, t2⟩]
    rfl
theorem LPr.kept {xs : List Arw} {ss es F1 F2 ls : List PySem.Str} (h : Kept xs ss es F1 F2) {o : Option Int} : LPr (xs.filter (kpA F1 F2)) (ss.filter (kp F1 F2)) (es.filter (kp F1 F2)) ls o ↔ LPr xs ss es ls o := by
  have key : ∀ n, (∃ s ∈ ss.filter (kp F1 F2), ∃ e ∈ es.filter (kp F1 F2), RunS (xs.filter (kpA F1 F2)) ls s e n) ↔ (∃ s ∈ ss, ∃ e ∈ es, RunS xs ls s e n) := fun n => by
    constructor
    · rintro ⟨s, h1, e, h2, r⟩
      exact ⟨s, (List.mem_filter.mp h1).1, e, (List.mem_filter.mp h2).1, run_sub (fun x hx => (List.mem_filter.mp hx).1) _ _ _ _ r⟩
    · rintro ⟨s, h1, e, h2, r⟩
      obtain ⟨r', a, b⟩ := run_kept h _ _ _ _ (h.s1 s h1) (h.s2 e h2) r
      exact ⟨s, List.mem_filter.mpr ⟨h1, kp_iff.mpr ⟨h.s1 s h1, a⟩⟩, e, List.mem_filter.mpr ⟨h2, kp_iff.mpr ⟨b, h.s2 e h2⟩⟩, r'⟩
  exact ⟨LeastO.iff key, LeastO.iff fun n => (key n).symm⟩
def spUseful (K : PySem.W.Frag) : Sp := fun vs H Q _ => ∃ (a b e : Addr) (us : List V) (xs : List Arw) (ss es : List PySem.Str), vs = [.ref a, .ref b, .ref e] ∧ SqL K H a us ∧ ArS H us xs ∧ SqE K H b (ss.map V.str) ∧ SqE K H e (es.map V.str) ∧ xs.length ≤ 900 ∧ ss.length ≤ 400 ∧ es.length ≤ 400 ∧
  ∀ (t q1 q2 q3 : Addr) (ws : List V) (ys : List Arw) (F1 F2 : List PySem.Str) (H' : Hp), H' t = some (.tup [.ref q1, .ref q2, .ref q3]) → H' q1 = some (.tup ws) → ArS H' ws ys → CheapOf (xs.filter (kpA F1 F2)) ys → H' q2 = some (.lst ((ss.filter (kp F1 F2)).map V.str)) → H' q3 = some (.lst ((es.filter (kp F1 F2)).map V.str)) →
    Kept xs ss es F1 F2 → Same H H' → Q (.ref t) H'
end Bz

namespace Bz
open PySem PySem.Spec PyProof.Rows L2
/-! ### two loops in one list -/
theorem it_gen {J : It} {n : Nat} {G : Hp → Prop} {Y : Nat → Hp → V → Hp → Prop} (w : Walk J n G Y) {Body : (Hp → Prop) → V → Hp → Prop} {H1 : Hp} {Qd : Hp → Prop} (Pv : Nat → Hp → Prop) (h0 : Pv 0 H1) (hG : ∀ i H, i ≤ n → Pv i H → G H)
    (hs : ∀ i x H H', i < n → Pv i H → Y i H x H' → Body (Pv (i + 1)) x H') (hd : ∀ H, Pv n H → Qd H) :
    ∃ W : Nat → Nat → Hp → Prop, (∃ m, W 0 m H1) ∧ ∀ i m H, W i m H →
      (J.stop i H ∧ Qd H) ∨ (J.go i H ∧ ∃ Nx : Hp → Prop, (∀ H', Nx H' → ∃ m', m' < m ∧ W (i + 1) m' H') ∧ ∀ x H', J.yld i H x H' → Body Nx x H') := by
  refine ⟨fun i m H => m = n - i ∧ i ≤ n ∧ Pv i H, ⟨n, by simp, Nat.zero_le _, h0⟩, ?_⟩
  rintro i m H ⟨rfl, hi, p⟩
  have q := hG i H hi p
  by_cases hlt : i < n
  · refine .inr ⟨w.goes i H hlt q, Pv (i + 1), fun H' p' => ⟨n - (i + 1), by omega, rfl, hlt, p'⟩, fun x H' y => hs i x H H' hlt p (w.yields i H x H' hlt q y)⟩
  · have e : i = n := by omega
    subst e
    exact .inl ⟨w.stops H q, hd H p⟩
def LcB (D : Addr) (I : List V → Hp → Prop) (H : Hp) : Prop := ∃ acc, H D = some (.lst acc) ∧ I acc H
theorem LcB.put {D : Addr} {I : List V → Hp → Prop} {H : Hp} {acc : List V} {y : V} (hst : ∀ acc H o, I acc H → I acc (upd H D o)) (h : H D = some (.lst acc)) (hl : acc.length < 1000000) (hI : I (acc ++ [y]) H) :
    ∃ acc, H D = some (.lst acc) ∧ acc.length < sizeLine ∧ LcB D I (upd H D (.lst (acc ++ [y]))) := ⟨acc, h, Nat.lt_of_lt_of_le hl (by decide), _, upd_same, hst _ _ _ hI⟩
/-! ### pairs -/
def prs (ss os : List PySem.Str) : List (PySem.Str × PySem.Str) := ss.flatMap fun s => os.map fun t => (s, t)
theorem prs_len (ss os : List PySem.Str) : (prs ss os).length = ss.length * os.length := by
  unfold prs
  induction ss with
  | nil => simp
  | cons s ss ih => rw [List.flatMap_cons, List.length_append, ih, List.length_map, List.length_cons, Nat.succ_mul, Nat.add_comm]
theorem prs_mem {ss os : List PySem.Str} {s t : PySem.Str} : (s, t) ∈ prs ss os ↔ s ∈ ss ∧ t ∈ os := by
  unfold prs
  simp only [List.mem_flatMap, List.mem_map, Prod.mk.injEq]
  exact ⟨fun ⟨a, ha, b, hb, e1, e2⟩ => by rw [← e1, ← e2]; exact ⟨ha, hb⟩, fun ⟨h1, h2⟩ => ⟨s, h1, t, h2, rfl, rfl⟩⟩
theorem prs_snoc {ss os : List PySem.Str} {s : PySem.Str} : prs (ss ++ [s]) os = prs ss os ++ os.map fun t => (s, t) := by
  unfold prs
  rw [List.flatMap_append]
  simp
theorem not_take {L : List PySem.Str} (h : L.Nodup) {i : Nat} {u : PySem.Str} (e : L[i]? = some u) : u ∉ L.take i := fun c => by
  have n : (L.take (i + 1)).Nodup := (List.take_sublist _ _).nodup h
  rw [List.take_add_one, e, Option.toList_some, List.nodup_append] at n
  exact n.2.2 u c u (List.mem_singleton.mpr rfl) rfl
theorem pair_idx {L : List (PySem.Str × PySem.Str)} {a b : PySem.Str × PySem.Str} (ha : a ∈ L) (hb : b ∈ L) (e : L.idxOf a = L.idxOf b) : a = b := by
  have h1 : L.idxOf a < L.length := List.idxOf_lt_length_of_mem ha
  have h2 : L.idxOf b < L.length := List.idxOf_lt_length_of_mem hb
  have e1 : L[L.idxOf a] = a := List.getElem_idxOf h1
  have e2 : L[L.idxOf b] = b := List.getElem_idxOf h2
  rw [← e1, ← e2]
  simp only [e]
theorem nm_inj {j k : Nat} (h : nmOf j = nmOf k) : j = k := nm_inj' (congrArg TL.tl h)
theorem nm_of {k : Nat} (hk : k < 676) : Nm (nmOf k) := by
  by_cases c : k < 26
  · have e : TL.tl (nmOf k) = [97 + k] := nm_tl1 c
    have l : (nmOf k).length = 1 := nm_len1 c
    refine ⟨by omega, by omega, fun c hc => ?_⟩
    rw [e] at hc
    rw [List.mem_singleton.mp hc]
    exact ⟨by omega, by omega⟩
  · have e : TL.tl (nmOf k) = [97 + k / 26, 97 + k % 26] := nm_tl2 (by omega)
    have l : (nmOf k).length = 2 := by rw [nm_ge (by omega)]; rfl
    refine ⟨by omega, by omega, fun c hc => ?_⟩
    rw [e] at hc
    simp only [List.mem_cons, List.not_mem_nil, or_false] at hc
    rcases hc with rfl | rfl
    · exact ⟨by omega, by omega⟩
    · exact ⟨by omega, by omega⟩
abbrev ky2 (s t : PySem.Str) : List Ky := [.inr s, .inr t]
/-- the names of the pairs so far -/
structure PN (us : List (List Ky × V)) (dn : List (PySem.Str × PySem.Str)) : Prop where
  len : us.length = dn.length
  nd : dn.Nodup
  val : ∀ s t, valV us (ky2 s t) = if (s, t) ∈ dn then some (.str (nmOf (dn.idxOf (s, t)))) else none
theorem PN.put {us : List (List Ky × V)} {dn : List (PySem.Str × PySem.Str)} {s t : PySem.Str} (h : PN us dn) (hp : (s, t) ∉ dn) : PN (putK us (ky2 s t) (.str (nmOf us.length))) (dn ++ [(s, t)]) where
  len := by
    have e : valV us (ky2 s t) = none := by rw [h.val, if_neg hp]
    rw [L2.putK_new _ e, List.length_append, List.length_append, h.len]
    rfl
  nd := nodup_snoc2 h.nd hp
  val := fun a b => by
    rw [valV_put, h.val a b]
    by_cases e : a = s ∧ b = t
    · obtain ⟨rfl, rfl⟩ := e
      rw [if_pos rfl, if_pos (List.mem_append_right _ (List.mem_singleton.mpr rfl)), List.idxOf_append, if_neg hp, h.len]
      simp
    · have n1 : ky2 a b ≠ ky2 s t := fun c => by
        unfold ky2 at c
        simp only [List.cons.injEq, Sum.inr.injEq, and_true] at c
        exact e c
      rw [if_neg n1]
      by_cases m : (a, b) ∈ dn
      · rw [if_pos m, if_pos (List.mem_append_left _ m), List.idxOf_append, if_pos m]
      · rw [if_neg m, if_neg]
        intro c
        rcases List.mem_append.mp c with c | c
        · exact m c
        · exact e (by simpa using c)
/-- names of pairs -/
structure PnL (ss os : List PySem.Str) (f : PySem.Str → PySem.Str → PySem.Str) : Prop where
  nm : ∀ s ∈ ss, ∀ t ∈ os, Nm (f s t)
  inj : ∀ a ∈ ss, ∀ c ∈ os, ∀ b ∈ ss, ∀ d ∈ os, f a c = f b d → a = b ∧ c = d
theorem PN.end {us : List (List Ky × V)} {ss os : List PySem.Str} (h : PN us (prs ss os)) (l : ss.length * os.length ≤ 36) : PnL ss os (fun s t => nmOf ((prs ss os).idxOf (s, t))) ∧ ∀ s ∈ ss, ∀ t ∈ os, valV us (ky2 s t) = some (.str (nmOf ((prs ss os).idxOf (s, t)))) := by
  refine ⟨⟨fun s hs t ht => nm_of ?_, fun a ha c hc b hb d hd e => ?_⟩, fun s hs t ht => by rw [h.val, if_pos (prs_mem.mpr ⟨hs, ht⟩)]⟩
  · have := List.idxOf_lt_length_of_mem (prs_mem.mpr ⟨hs, ht⟩)
    rw [prs_len] at this
    omega
  · have := pair_idx (prs_mem.mpr ⟨ha, hc⟩) (prs_mem.mpr ⟨hb, hd⟩) (nm_inj e)
    exact ⟨congrArg Prod.fst this, congrArg Prod.snd this⟩
def spPairNames (K : PySem.W.Frag) : Sp := fun vs H Q _ => ∃ (a b : Addr) (ss os : List PySem.Str), vs = [.ref a, .ref b] ∧ SqT K H a (ss.map V.str) ∧ SqT K H b (os.map V.str) ∧ ss.Nodup ∧ os.Nodup ∧ ss.length * os.length ≤ 36 ∧
  ∀ (d : Addr) (us : List (List Ky × V)) (f : PySem.Str → PySem.Str → PySem.Str) (H' : Hp), H d = none → H' d = some (.dT us) → (∀ s ∈ ss, ∀ t ∈ os, valV us (ky2 s t) = some (.str (f s t))) → PnL ss os f → Same H H' → Q (.ref d) H'
/-! ### the product -/
def pA (f : PySem.Str → PySem.Str → PySem.Str) (x y : Arw) : Arw := ⟨f x.s y.s, x.l, f x.t y.t, x.c + y.c⟩
def rowA (f : PySem.Str → PySem.Str → PySem.Str) (x : Arw) (ys : List Arw) : List Arw := (ys.filter fun y => decide (y.l = x.l)).map (pA f x)
def prodA (f : PySem.Str → PySem.Str → PySem.Str) (xs ys : List Arw) : List Arw := xs.flatMap fun x => rowA f x ys
def prodS (f : PySem.Str → PySem.Str → PySem.Str) (ss ts : List PySem.Str) : List PySem.Str := ss.flatMap fun s => ts.map (f s)
theorem prodS_len (f : PySem.Str → PySem.Str → PySem.Str) (ss ts : List PySem.Str) : (prodS f ss ts).length = ss.length * ts.length := by
  unfold prodS
  induction ss with
  | nil => simp
  | cons s ss ih => rw [List.flatMap_cons, List.length_append, ih, List.length_map, List.length_cons, Nat.succ_mul, Nat.add_comm]
theorem prodA_len (f : PySem.Str → PySem.Str → PySem.Str) (xs ys : List Arw) : (prodA f xs ys).length ≤ xs.length * ys.length := by
  unfold prodA
  induction xs with
  | nil => simp
  | cons x xs ih =>
    have : (rowA f x ys).length ≤ ys.length := by
      unfold rowA
      rw [List.length_map]
      exact List.length_filter_le ..
    rw [List.flatMap_cons, List.length_append, List.length_cons, Nat.succ_mul]
    omega
theorem prodA_mem {f : PySem.Str → PySem.Str → PySem.Str} {xs ys : List Arw} {z : Arw} : z ∈ prodA f xs ys ↔ ∃ x ∈ xs, ∃ y ∈ ys, y.l = x.l ∧ z = pA f x y := by
  unfold prodA rowA
  simp only [List.mem_flatMap, List.mem_map, List.mem_filter, decide_eq_true_eq]
  exact ⟨fun ⟨x, hx, y, ⟨hy, e⟩, ez⟩ => ⟨x, hx, y, hy, e, ez.symm⟩, fun ⟨x, hx, y, hy, e, ez⟩ => ⟨x, hx, y, ⟨hy, e⟩, ez.symm⟩⟩
theorem prodS_mem {f : PySem.Str → PySem.Str → PySem.Str} {ss ts : List PySem.Str} {z : PySem.Str} : z ∈ prodS f ss ts ↔ ∃ s ∈ ss, ∃ t ∈ ts, z = f s t := by
  unfold prodS
  simp only [List.mem_flatMap, List.mem_map]
  exact ⟨fun ⟨x, hx, y, hy, ez⟩ => ⟨x, hx, y, hy, ez.symm⟩, fun ⟨x, hx, y, hy, ez⟩ => ⟨x, hx, y, hy, ez.symm⟩⟩
theorem prodA_snoc {f : PySem.Str → PySem.Str → PySem.Str} {xs ys : List Arw} {x : Arw} : prodA f (xs ++ [x]) ys = prodA f xs ys ++ rowA f x ys := by
  unfold prodA
  rw [List.flatMap_append]
  simp
theorem prodS_snoc {f : PySem.Str → PySem.Str → PySem.Str} {ss ts : List PySem.Str} {s : PySem.Str} : prodS f (ss ++ [s]) ts = prodS f ss ts ++ ts.map (f s) := by
  unfold prodS
  rw [List.flatMap_append]
  simp
theorem run_prod {f : PySem.Str → PySem.Str → PySem.Str} {xs ys : List Arw} {S U : List PySem.Str} (hx : ∀ x ∈ xs, x.s ∈ S ∧ x.t ∈ S) (hy : ∀ y ∈ ys, y.s ∈ U ∧ y.t ∈ U) (hf : PnL S U f) : ∀ (ls : List PySem.Str) (a c b d : PySem.Str) (n : Int), a ∈ S → c ∈ U → b ∈ S → d ∈ U →
    (RunS (prodA f xs ys) ls (f a c) (f b d) n ↔ ∃ m k, RunS xs ls a b m ∧ RunS ys ls c d k ∧ n = m + k)
  | [], a, c, b, d, n, ha, hc, hb, hd => by
    simp only [RunS]
    constructor
    · rintro ⟨e, rfl⟩
      obtain ⟨e1, e2⟩ := hf.inj a ha c hc b hb d hd e
      exact ⟨0, 0, ⟨e1, rfl⟩, ⟨e2, rfl⟩, rfl⟩
    · rintro ⟨m, k, ⟨rfl, rfl⟩, ⟨rfl, rfl⟩, rfl⟩
      exact ⟨rfl, rfl⟩
  | l :: ls, a, c, b, d, n, ha, hc, hb, hd => by
    simp only [RunS]
    constructor
    · rintro ⟨z, hz, e1, e2, m, r, rfl⟩
      obtain ⟨x, hxm, y, hym, el, rfl⟩ := prodA_mem.mp hz
      obtain ⟨e3, e4⟩ := hf.inj _ (hx x hxm).1 _ (hy y hym).1 _ ha _ hc e1
      obtain ⟨m1, k1, r1, r2, rfl⟩ := (run_prod hx hy hf ls x.t y.t b d m (hx x hxm).2 (hy y hym).2 hb hd).mp r
      refine ⟨x.c + m1, y.c + k1, ⟨x, hxm, e3, e2, m1, r1, rfl⟩, ⟨y, hym, e4, el.trans e2, k1, r2, rfl⟩, ?_⟩
      show x.c + y.c + (m1 + k1) = _
      omega
    · rintro ⟨_, _, ⟨x, hxm, rfl, e2, m1, r1, rfl⟩, ⟨y, hym, rfl, e4, k1, r2, rfl⟩, rfl⟩
      refine ⟨pA f x y, prodA_mem.mpr ⟨x, hxm, y, hym, e4.trans e2.symm, rfl⟩, rfl, e2, m1 + k1, (run_prod hx hy hf ls x.t y.t b d _ (hx x hxm).2 (hy y hym).2 hb hd).mpr ⟨m1, k1, r1, r2, rfl⟩, ?_⟩
      show _ = x.c + y.c + (m1 + k1)
      omega
def sumO : Option Int → Option Int → Option Int
  | some a, some b => some (a + b)
  | _, _ => none
theorem LPr.prod {f : PySem.Str → PySem.Str → PySem.Str} {xs ys : List Arw} {S U ss es ts fs ls : List PySem.Str} (hx : ∀ x ∈ xs, x.s ∈ S ∧ x.t ∈ S) (hy : ∀ y ∈ ys, y.s ∈ U ∧ y.t ∈ U) (hf : PnL S U f) (h1 : ∀ s ∈ ss, s ∈ S) (h2 : ∀ s ∈ es, s ∈ S) (h3 : ∀ s ∈ ts, s ∈ U) (h4 : ∀ s ∈ fs, s ∈ U) {a b : Option Int}
    (ha : LPr xs ss es ls a) (hb : LPr ys ts fs ls b) : LPr (prodA f xs ys) (prodS f ss ts) (prodS f es fs) ls (sumO a b) := by
  have key : ∀ n, (∃ s ∈ prodS f ss ts, ∃ e ∈ prodS f es fs, RunS (prodA f xs ys) ls s e n) ↔ ∃ m k, (∃ s ∈ ss, ∃ e ∈ es, RunS xs ls s e m) ∧ (∃ s ∈ ts, ∃ e ∈ fs, RunS ys ls s e k) ∧ n = m + k := fun n => by
    constructor
    · rintro ⟨_, hs0, _, he0, r⟩
      obtain ⟨s, hs, t, ht, rfl⟩ := prodS_mem.mp hs0
      obtain ⟨e, he, g, hg, rfl⟩ := prodS_mem.mp he0
      obtain ⟨m, k, r1, r2, e1⟩ := (run_prod hx hy hf ls s t e g n (h1 s hs) (h3 t ht) (h2 e he) (h4 g hg)).mp r
      exact ⟨m, k, ⟨s, hs, e, he, r1⟩, ⟨t, ht, g, hg, r2⟩, e1⟩
    · rintro ⟨m, k, ⟨s, hs, e, he, r1⟩, ⟨t, ht, g, hg, r2⟩, e1⟩
      exact ⟨f s t, prodS_mem.mpr ⟨s, hs, t, ht, rfl⟩, f e g, prodS_mem.mpr ⟨e, he, g, hg, rfl⟩, (run_prod hx hy hf ls s t e g n (h1 s hs) (h3 t ht) (h2 e he) (h4 g hg)).mpr ⟨m, k, r1, r2, e1⟩⟩
  cases a with
  | none =>
    intro n hn
    obtain ⟨m, k, h, _, _⟩ := (key n).mp hn
    exact ha m h
  | some a =>
    cases b with
    | none =>
      intro n hn
      obtain ⟨m, k, _, h, _⟩ := (key n).mp hn
      exact hb k h
    | some b =>
      refine ⟨(key _).mpr ⟨a, b, ha.1, hb.1, rfl⟩, fun n hn => ?_⟩
      obtain ⟨m, k, g1, g2, rfl⟩ := (key n).mp hn
      have := ha.2 m g1
      have := hb.2 k g2
      omega
/-! ### unpaid -/
def zeroA (x : Arw) : Arw := ⟨x.s, x.l, x.t, 0⟩
theorem run_zero {xs : List Arw} : ∀ (ls : List PySem.Str) (a b : PySem.Str) (n : Int), RunS (xs.map zeroA) ls a b n ↔ n = 0 ∧ ∃ m, RunS xs ls a b m
  | [], a, b, n => by
    simp only [RunS]
    exact ⟨fun ⟨e, z⟩ => ⟨z, 0, e, rfl⟩, fun ⟨z, _, e, _⟩ => ⟨e, z⟩⟩
  | l :: ls, a, b, n => by
    simp only [RunS]
    constructor
    · rintro ⟨z, hz, e1, e2, m, r, rfl⟩
      obtain ⟨x, hx, rfl⟩ := List.mem_map.mp hz
      obtain ⟨rfl, k, r⟩ := (run_zero ls _ _ _).mp r
      exact ⟨rfl, _, x, hx, e1, e2, k, r, rfl⟩
    · rintro ⟨rfl, m, x, hx, e1, e2, k, r, _⟩
      exact ⟨zeroA x, List.mem_map.mpr ⟨x, hx, rfl⟩, e1, e2, 0, (run_zero ls _ _ _).mpr ⟨rfl, k, r⟩, rfl⟩
theorem LPr.zero {xs : List Arw} {ss es ls : List PySem.Str} {b : Option Int} (h : LPr xs ss es ls b) : LPr (xs.map zeroA) ss es ls (b.map fun _ => 0) := by
  cases b with
  | none =>
    rintro n ⟨s, hs, e, he, r⟩
    obtain ⟨_, m, r⟩ := (run_zero _ _ _ _).mp r
    exact h m ⟨s, hs, e, he, r⟩
  | some b =>
    obtain ⟨⟨s, hs, e, he, r⟩, _⟩ := h
    refine ⟨⟨s, hs, e, he, (run_zero _ _ _ _).mpr ⟨rfl, b, r⟩⟩, fun n ⟨s, hs, e, he, r⟩ => ?_⟩
    rw [((run_zero _ _ _ _).mp r).1]
    exact Int.le_refl _
/-- small prices -/
structure LowC (M : MachV) : Prop where
  c : ∀ x ∈ M.ars, x.c ≤ 40
  s : M.sts.length ≤ 6
  e : M.ens.length ≤ 6
theorem MOf.low {M : MachV} {xs : List Arw} {ss es : List PySem.Str} (h : MOf M xs ss es) (c : ∀ x ∈ xs, x.c ≤ 40) (l : M.sta.length ≤ 6) : LowC M where
  c := fun x hx => c x (h.ars.sub x hx).1
  s := Nat.le_trans (nodup_le (asc_nodup h.sts.1) fun s hs => (h.sta.2 s).mpr (.inl ((h.sts.2 s).mp hs))) l
  e := Nat.le_trans (nodup_le (asc_nodup h.ens.1) fun s hs => (h.sta.2 s).mpr (.inr (.inl ((h.ens.2 s).mp hs)))) l
/-- R reads what M and N read, for the sum of both; of M's and nothing -/
structure SumOf (R M N : MachV) : Prop where
  price : ∀ (ls : List PySem.Str) (a b o : Option Int), LPr M.ars M.sts M.ens ls a → LPr N.ars N.sts N.ens ls b → LeastO (fun n => ∃ e ∈ R.ens, Rch R.ars R.sts ls e n) o → o = sumO a b
  len : R.sta.length ≤ M.sta.length * N.sta.length
structure InOf (R M N : MachV) : Prop where
  price : ∀ (ls : List PySem.Str) (a b o : Option Int), LPr M.ars M.sts M.ens ls a → LPr N.ars N.sts N.ens ls b → LeastO (fun n => ∃ e ∈ R.ens, Rch R.ars R.sts ls e n) o → o = sumO a (b.map fun _ => 0)
  len : R.sta.length ≤ M.sta.length * N.sta.length
theorem prod_in {f : PySem.Str → PySem.Str → PySem.Str} {M N : MachV} (hM : MFine M) (hN : MFine N) : (∀ s ∈ prodS f M.sts N.sts, s ∈ prodS f M.sta N.sta) ∧ (∀ s ∈ prodS f M.ens N.ens, s ∈ prodS f M.sta N.sta) ∧ ∀ x ∈ prodA f M.ars N.ars, x.s ∈ prodS f M.sta N.sta ∧ x.t ∈ prodS f M.sta N.sta := by
  refine ⟨fun s hs => ?_, fun s hs => ?_, fun x hx => ?_⟩
  · obtain ⟨a, ha, b, hb, rfl⟩ := prodS_mem.mp hs
    exact prodS_mem.mpr ⟨a, hM.st a ha, b, hN.st b hb, rfl⟩
  · obtain ⟨a, ha, b, hb, rfl⟩ := prodS_mem.mp hs
    exact prodS_mem.mpr ⟨a, hM.en a ha, b, hN.en b hb, rfl⟩
  · obtain ⟨a, ha, b, hb, _, rfl⟩ := prodA_mem.mp hx
    exact ⟨prodS_mem.mpr ⟨_, (hM.ar a ha).1, _, (hN.ar b hb).1, rfl⟩, prodS_mem.mpr ⟨_, (hM.ar a ha).2, _, (hN.ar b hb).2, rfl⟩⟩
theorem prod_ok {f : PySem.Str → PySem.Str → PySem.Str} {M N : MachV} (hM : MFine M) (hN : MFine N) (hf : PnL M.sta N.sta f) (c1 : LowC M) (c2 : LowC N) : ∀ x ∈ prodA f M.ars N.ars, x.Ok := fun z hz => by
  obtain ⟨x, hx, y, hy, _, rfl⟩ := prodA_mem.mp hz
  have o := hM.ok x hx
  have p := hN.ok y hy
  have o0 := o.c0
  have p0 := p.c0
  exact ⟨hf.nm _ (hM.ar x hx).1 _ (hN.ar y hy).1, o.l, hf.nm _ (hM.ar x hx).2 _ (hN.ar y hy).2, Int.add_nonneg o0 p0, by have := c1.c x hx; have := c2.c y hy; show x.c + y.c ≤ 99; omega⟩
theorem sum_of {R M N : MachV} {f : PySem.Str → PySem.Str → PySem.Str} {zs : List Arw} {F1 F2 : List PySem.Str} (hM : MFine M) (hN : MFine N) (hf : PnL M.sta N.sta f) (hK : Kept (prodA f M.ars N.ars) (prodS f M.sts N.sts) (prodS f M.ens N.ens) F1 F2)
    (hc : CheapOf ((prodA f M.ars N.ars).filter (kpA F1 F2)) zs) (hR : MOf R zs ((prodS f M.sts N.sts).filter (kp F1 F2)) ((prodS f M.ens N.ens).filter (kp F1 F2))) : SumOf R M N := by
  obtain ⟨i1, i2, i3⟩ := prod_in (f := f) hM hN
  refine ⟨fun ls a b o ha hb ho => ?_, ?_⟩
  · have h1 := (LPr.kept hK).mp ((LPr.cheap hc (fun _ => Iff.rfl) (fun _ => Iff.rfl)).mp (hR.price ho))
    exact h1.uniq (LPr.prod hM.ar hN.ar hf hM.st hM.en hN.st hN.en ha hb)
  · have q := nodup_le (ts := prodS f M.sta N.sta) (asc_nodup hR.sta.1) fun s hs => by
      rcases (hR.sta.2 s).mp hs with h | h | ⟨x, hx, h⟩
      · exact i1 s (List.mem_filter.mp h).1
      · exact i2 s (List.mem_filter.mp h).1
      · have := i3 x (List.mem_filter.mp (hc.sub x (hR.ars.sub x hx).1).1).1
        rcases h with h | h
        · rw [h]; exact this.1
        · rw [h]; exact this.2
    rw [prodS_len] at q
    exact q
theorem zero_sta {N U : MachV} (hN : MFine N) (hU : MOf U (N.ars.map zeroA) N.sts N.ens) : U.sta.length ≤ N.sta.length := nodup_le (asc_nodup hU.sta.1) fun s hs => by
  rcases (hU.sta.2 s).mp hs with h | h | ⟨x, hx, h⟩
  · exact hN.st s h
  · exact hN.en s h
  · obtain ⟨y, hy, rfl⟩ := List.mem_map.mp (hU.ars.sub x hx).1
    have := hN.ar y hy
    rcases h with h | h
    · rw [h]; exact this.1
    · rw [h]; exact this.2
theorem in_of {R M N U : MachV} (hN : MFine N) (hU : MOf U (N.ars.map zeroA) N.sts N.ens) (h : SumOf R M U) : InOf R M N := by
  refine ⟨fun ls a b o ha hb ho => h.price ls a _ o ha ?_ ho, Nat.le_trans h.len (Nat.mul_le_mul_left _ (zero_sta hN hU))⟩
  exact (LPr.cheap hU.ars hU.sts.2 hU.ens.2).mpr (LPr.zero hb)
def spSummed (C : Addr) : Sp := fun vs H Q _ => ∃ (m n : Addr) (M N : MachV), vs = [.ref m, .ref n] ∧ IsMach C H m M ∧ IsMach C H n N ∧ MFine M ∧ MFine N ∧ Asc M.sta ∧ Asc N.sta ∧ M.sta.length ≤ 6 ∧ N.sta.length ≤ 6 ∧ M.ars.length ≤ 20 ∧ N.ars.length ≤ 20 ∧ LowC M ∧ LowC N ∧
  ∀ (q : Addr) (R : MachV) (H' : Hp), H q = none → IsMach C H' q R → MFine R → SumOf R M N → Same H H' → Q (.ref q) H'
def spWithin (C : Addr) : Sp := fun vs H Q _ => ∃ (m n : Addr) (M N : MachV), vs = [.ref m, .ref n] ∧ IsMach C H m M ∧ IsMach C H n N ∧ MFine M ∧ MFine N ∧ Asc M.sta ∧ Asc N.sta ∧ M.sta.length ≤ 6 ∧ N.sta.length ≤ 6 ∧ M.ars.length ≤ 20 ∧ N.ars.length ≤ 20 ∧ LowC M ∧ LowC N ∧
  ∀ (q : Addr) (R : MachV) (H' : Hp), H q = none → IsMach C H' q R → MFine R → InOf R M N → Same H H' → Q (.ref q) H'
end Bz

namespace Bz
open PySem PySem.Spec PyProof.Rows L2
theorem kmax1 (K : PySem.W.Frag) {X : Cx} (hc : X.calm = true) (h : X.K = K := by rfl) : CallR X (.builtin "max") (rMax K) := by subst h; exact cr_max hc
def optD : Option Int → PyData
  | none => .none
  | some n => .int n
theorem dp_opts {K : PySem.W.Frag} {H : Hp} : ∀ os : List (Option Int), DpAll K H (os.map optV) (os.map optD)
  | [] => .nil
  | none :: os => .cons .non (dp_opts os)
  | some n :: os => .cons (.int n) (dp_opts os)
theorem shaped_opts (os : List (Option Int)) : SeqAt.shaped (.list (os.map optD)) = true := by
  refine shaped_of2 (b := true) fun d hd => ?_
  obtain ⟨x, hx, rfl⟩ := List.mem_map.mp hd
  cases x with
  | none => exact ⟨by simp only [optD, PyData.canLay0], by simp only [optD, PyData.depth]; omega⟩
  | some n => exact ⟨by simp only [optD, PyData.canLay0], by simp only [optD, PyData.depth]; omega⟩
theorem eqv_opts (os : List (Option Int)) : PyData.eqv (.list (os.map optD)) (.list (os.map optD)) = true := by
  simp only [PyData.eqv]
  induction os with
  | nil => simp [PyData.eqvAll]
  | cons x xs ih => cases x <;> simp [optD, PyData.eqvAll, PyData.eqv, ih]
/-- a row's four prices -/
theorem sum_due (a b : Option Int) : [sumO a (b.map fun _ => 0), sumO b (a.map fun _ => 0), sumO a b, sumO b a] = (match a, b with
  | some x, some y => [some x, some y, some (x + y), some (x + y)]
  | _, _ => [none, none, none, none]) := by
  cases a <;> cases b <;> simp [sumO, Int.add_comm]
end Bz
namespace Bz
open PySem PySem.Spec PyProof.Rows L2
theorem GMade.stal {M : MachV} {xs : List Arw} {ss es ns : List PySem.Str} (g : GMade xs ss es ns) (h : MOf M xs ss es) : M.sta.length ≤ ns.length := nodup_le (asc_nodup h.sta.1) fun k hk => by
  rcases (h.sta.2 k).mp hk with h1 | h1 | ⟨x, hx, h1 | h1⟩
  · exact g.si k h1
  · exact g.ei k h1
  · rw [h1]
    exact (g.ai x (h.ars.sub x hx).1).1
  · rw [h1]
    exact (g.ai x (h.ars.sub x hx).1).2
end Bz
namespace Bz
open PySem PySem.Spec PyProof.Rows L2
theorem map_get {α β : Type} {g : α → β} {L : List α} {i : Nat} {y : β} (h : (L.map g)[i]? = some y) : ∃ u, y = g u ∧ L[i]? = some u := by
  rw [List.getElem?_map] at h
  obtain ⟨u, hu, e⟩ := Option.map_eq_some_iff.mp h
  exact ⟨u, e.symm, hu⟩
def due : Option Int → Option Int → List (Option Int)
  | some x, some y => [some x, some y, some (x + y), some (x + y)]
  | _, _ => [none, none, none, none]
theorem due_of {a b : Option Int} : due a b = [sumO a (b.map fun _ => 0), sumO b (a.map fun _ => 0), sumO a b, sumO b a] := by
  cases a <;> cases b <;> simp [due, sumO, Int.add_comm]
end Bz

namespace Bz
open PySem PySem.Spec PyProof.Rows L2
/-! ### one behind the other -/
def Runs (xs : List Arw) (ss es ls : List PySem.Str) (n : Int) : Prop := ∃ s ∈ ss, ∃ e ∈ es, RunS xs ls s e n
def lkA (ts : List PySem.Str) (x : Arw) : List Arw := ts.map fun s => ⟨x.s, x.l, s, x.c⟩
/-- the arrows over to the other's starts -/
def lks (xs : List Arw) (es ts : List PySem.Str) : List Arw := (xs.filter fun x => decide (x.t ∈ es)).flatMap (lkA ts)
theorem lks_mem {xs : List Arw} {es ts : List PySem.Str} {z : Arw} : z ∈ lks xs es ts ↔ ∃ x ∈ xs, x.t ∈ es ∧ ∃ s ∈ ts, z = ⟨x.s, x.l, s, x.c⟩ := by
  unfold lks lkA
  simp only [List.mem_flatMap, List.mem_map, List.mem_filter, decide_eq_true_eq]
  exact ⟨fun ⟨x, ⟨hx, ht⟩, s, hs, e⟩ => ⟨x, hx, ht, s, hs, e.symm⟩, fun ⟨x, hx, ht, s, hs, e⟩ => ⟨x, ⟨hx, ht⟩, s, hs, e.symm⟩⟩
theorem lks_len (xs : List Arw) (es ts : List PySem.Str) : (lks xs es ts).length ≤ xs.length * ts.length := by
  unfold lks
  induction xs with
  | nil => simp
  | cons x xs ih =>
    rw [List.length_cons, Nat.succ_mul]
    by_cases c : x.t ∈ es
    · rw [List.filter_cons_of_pos (by simpa using c), List.flatMap_cons, List.length_append]
      have : (lkA ts x).length = ts.length := by
        unfold lkA
        rw [List.length_map]
      omega
    · rw [List.filter_cons_of_neg (by simpa using c)]
      omega
theorem lks_len2 (xs : List Arw) (es ts : List PySem.Str) : (lks xs es ts).length = (xs.filter fun x => decide (x.t ∈ es)).length * ts.length := by
  unfold lks
  induction (xs.filter fun x => decide (x.t ∈ es)) with
  | nil => simp
  | cons x xs ih =>
    rw [List.flatMap_cons, List.length_append, ih, List.length_cons, Nat.succ_mul]
    have : (lkA ts x).length = ts.length := by
      unfold lkA
      rw [List.length_map]
    omega
theorem lks_take (xs : List Arw) (es ts : List PySem.Str) (i : Nat) : (lks (xs.take i) es ts).length ≤ (lks xs es ts).length := by
  rw [lks_len2, lks_len2]
  refine Nat.mul_le_mul_right _ ?_
  exact (List.Sublist.filter _ (List.take_sublist i xs)).length_le
theorem lks_in {xs : List Arw} {es ts : List PySem.Str} {y : Arw} (h : y.t ∈ es) : lks (xs ++ [y]) es ts = lks xs es ts ++ lkA ts y := by
  unfold lks
  rw [List.filter_append, List.filter_cons_of_pos (by simpa using h), List.filter_nil, List.flatMap_append]
  simp
theorem lks_out {xs : List Arw} {es ts : List PySem.Str} {y : Arw} (h : y.t ∉ es) : lks (xs ++ [y]) es ts = lks xs es ts := by
  unfold lks
  rw [List.filter_append, List.filter_cons_of_neg (by simpa using h), List.filter_nil, List.append_nil]
def jA (xs ys : List Arw) (es ts : List PySem.Str) : List Arw := xs ++ ys ++ lks xs es ts
theorem run_second {xs ys : List Arw} {S U es ts : List PySem.Str} (hx : ∀ x ∈ xs, x.s ∈ S ∧ x.t ∈ S) (hy : ∀ y ∈ ys, y.s ∈ U ∧ y.t ∈ U) (d : ∀ s ∈ S, s ∉ U) : ∀ (ls : List PySem.Str) (a b : PySem.Str) (n : Int), a ∈ U → (RunS (jA xs ys es ts) ls a b n ↔ RunS ys ls a b n)
  | [], a, b, n, _ => Iff.rfl
  | l :: ls, a, b, n, ha => by
    simp only [RunS]
    constructor
    · rintro ⟨z, hz, e1, e2, m, r, e⟩
      rcases List.mem_append.mp hz with h | h
      · rcases List.mem_append.mp h with h | h
        · exact absurd ha (d a (by rw [← e1]; exact (hx z h).1))
        · exact ⟨z, h, e1, e2, m, (run_second hx hy d ls _ _ _ (hy z h).2).mp r, e⟩
      · obtain ⟨x, hxm, _, s, _, rfl⟩ := lks_mem.mp h
        exact absurd ha (d a (by rw [← e1]; exact (hx x hxm).1))
    · rintro ⟨z, h, e1, e2, m, r, e⟩
      exact ⟨z, List.mem_append_left _ (List.mem_append_right _ h), e1, e2, m, (run_second hx hy d ls _ _ _ (hy z h).2).mpr r, e⟩
theorem run_first {xs ys : List Arw} {S U es ts : List PySem.Str} (hx : ∀ x ∈ xs, x.s ∈ S ∧ x.t ∈ S) (hy : ∀ y ∈ ys, y.s ∈ U ∧ y.t ∈ U) (d : ∀ s ∈ S, s ∉ U) (ht : ∀ t ∈ ts, t ∈ U) : ∀ (ls : List PySem.Str) (a b : PySem.Str) (n : Int), a ∈ S → b ∈ U →
    (RunS (jA xs ys es ts) ls a b n ↔ ∃ i, 0 < i ∧ i ≤ ls.length ∧ ∃ m k, (∃ e ∈ es, RunS xs (ls.take i) a e m) ∧ (∃ s ∈ ts, RunS ys (ls.drop i) s b k) ∧ n = m + k)
  | [], a, b, n, ha, hb => by
    constructor
    · rintro ⟨e, _⟩
      rw [e] at ha
      exact absurd hb (d b ha)
    · rintro ⟨i, h1, h2, _⟩
      have : i ≤ 0 := h2
      omega
  | l :: ls, a, b, n, ha, hb => by
    constructor
    · rintro ⟨z, hz, e1, e2, m, r, e⟩
      rcases List.mem_append.mp hz with h | h
      · rcases List.mem_append.mp h with h | h
        · obtain ⟨i, h1, h2, m1, k1, ⟨q, hq, r1⟩, r2, e3⟩ := (run_first hx hy d ht ls z.t b m (hx z h).2 hb).mp r
          refine ⟨i + 1, by omega, by rw [List.length_cons]; omega, z.c + m1, k1, ⟨q, hq, z, h, e1, e2, m1, r1, rfl⟩, r2, by omega⟩
        · exact absurd (hy z h).1 (d _ (by rw [e1]; exact ha))
      · obtain ⟨x, hxm, xe, s, hs, rfl⟩ := lks_mem.mp h
        refine ⟨1, by omega, by rw [List.length_cons]; omega, x.c + 0, m, ⟨x.t, xe, x, hxm, e1, e2, 0, ⟨rfl, rfl⟩, rfl⟩, ⟨s, hs, (run_second hx hy d ls s b m (ht s hs)).mp r⟩, ?_⟩
        rw [e]
        show x.c + m = _
        omega
    · rintro ⟨i, h1, h2, m1, k1, ⟨q, hq, r1⟩, ⟨s, hs, r2⟩, e3⟩
      obtain ⟨j, rfl⟩ : ∃ j, i = j + 1 := ⟨i - 1, by omega⟩
      obtain ⟨x, hxm, e1, e2, m2, r3, e4⟩ := r1
      by_cases c : j = 0
      · subst c
        obtain ⟨e5, e6⟩ := r3
        refine ⟨⟨x.s, x.l, s, x.c⟩, List.mem_append_right _ (lks_mem.mpr ⟨x, hxm, by rw [e5]; exact hq, s, hs, rfl⟩), e1, e2, k1, (run_second hx hy d ls s b k1 (ht s hs)).mpr r2, ?_⟩
        show n = x.c + k1
        omega
      · refine ⟨x, List.mem_append_left _ (List.mem_append_left _ hxm), e1, e2, m2 + k1, (run_first hx hy d ht ls x.t b _ (hx x hxm).2 hb).mpr ⟨j, by omega, by rw [List.length_cons] at h2; omega, m2, k1, ⟨q, hq, r3⟩, ⟨s, hs, r2⟩, rfl⟩, by omega⟩
def ArDD (D E : Addr) (H : Hp) (us : List V) (xs : List Arw) : Prop := Paired (fun v x => ∃ q, v = V.ref q ∧ q ≠ D ∧ q ≠ E ∧ H q = some (.tup x.vals)) us xs
theorem ArDD.upd {D E : Addr} {H : Hp} {us : List V} {xs : List Arw} {o : HO} (h : ArDD D E H us xs) : ArDD D E (L2.upd H D o) us xs := Paired.mapP h fun v p ⟨r, e, n, m, hr⟩ => ⟨r, e, n, m, (upd_ne n).trans hr⟩
theorem ArDD.keep {D E : Addr} {H H' : Hp} {us : List V} {xs : List Arw} (h : ArDD D E H us xs) (s : Same H H') : ArDD D E H' us xs := Paired.mapP h fun v p ⟨r, e, n, m, hr⟩ => ⟨r, e, n, m, s _ _ hr⟩
theorem ArDD.snoc {D E g : Addr} {H : Hp} {us : List V} {xs : List Arw} {x : Arw} (h : ArDD D E H us xs) (n : g ≠ D) (m : g ≠ E) (e : H g = some (.tup x.vals)) : ArDD D E H (us ++ [.ref g]) (xs ++ [x]) := paired_snoc h ⟨g, rfl, n, m, e⟩
theorem ArDD.snd {D E : Addr} {H : Hp} {us : List V} {xs : List Arw} (h : ArDD D E H us xs) : ArD E H us xs := Paired.mapP h fun v p ⟨r, e, _, m, hr⟩ => ⟨r, e, m, hr⟩
/-- sums over all cuts -/
def CutR (P Q : List PySem.Str → Int → Prop) (ls : List PySem.Str) (n : Int) : Prop := ∃ i, i ≤ ls.length ∧ ∃ m k, P (ls.take i) m ∧ Q (ls.drop i) k ∧ n = m + k
def CutN (f g : Nat → Option Int) (L : Nat) (n : Int) : Prop := ∃ i, i ≤ L ∧ ∃ m k, f i = some m ∧ g i = some k ∧ n = m + k
theorem join_runs {xs ys : List Arw} {S U ss es ts fs : List PySem.Str} {b : Bool} (hx : ∀ x ∈ xs, x.s ∈ S ∧ x.t ∈ S) (hy : ∀ y ∈ ys, y.s ∈ U ∧ y.t ∈ U) (d : ∀ s ∈ S, s ∉ U) (h1 : ∀ s ∈ ss, s ∈ S) (h3 : ∀ t ∈ ts, t ∈ U) (h4 : ∀ t ∈ fs, t ∈ U)
    (hb : b = true ↔ ∃ m, Runs xs ss es [] m) (ls : List PySem.Str) (n : Int) : Runs (jA xs ys es ts) (ss ++ if b = true then ts else []) fs ls n ↔ CutR (Runs xs ss es) (Runs ys ts fs) ls n := by
  constructor
  · rintro ⟨s, hs, e, he, r⟩
    rcases List.mem_append.mp hs with hs | hs
    · obtain ⟨i, _, h2, m, k, ⟨q, hq, r1⟩, ⟨t, ht, r2⟩, e3⟩ := (run_first hx hy d h3 ls s e n (h1 s hs) (h4 e he)).mp r
      exact ⟨i, h2, m, k, ⟨s, hs, q, hq, r1⟩, ⟨t, ht, e, he, r2⟩, e3⟩
    · by_cases c : b = true
      · rw [if_pos c] at hs
        obtain ⟨m, s0, hs0, e0, he0, e1, e2⟩ := hb.mp c
        exact ⟨0, Nat.zero_le _, 0, n, ⟨s0, hs0, e0, he0, e1, rfl⟩, ⟨s, hs, e, he, (run_second hx hy d ls s e n (h3 s hs)).mp r⟩, by omega⟩
      · rw [if_neg c] at hs
        cases hs
  · rintro ⟨i, h2, m, k, ⟨s, hs, q, hq, r1⟩, ⟨t, ht, e, he, r2⟩, e3⟩
    by_cases c : i = 0
    · subst c
      obtain ⟨e4, e5⟩ := r1
      have hbt : b = true := hb.mpr ⟨0, s, hs, q, hq, e4, rfl⟩
      refine ⟨t, List.mem_append_right _ (by rw [if_pos hbt]; exact ht), e, he, (run_second hx hy d ls t e n (h3 t ht)).mpr ?_⟩
      rw [e3, e5, Int.zero_add]
      exact r2
    · exact ⟨s, List.mem_append_left _ hs, e, he, (run_first hx hy d h3 ls s e n (h1 s hs) (h4 e he)).mpr ⟨i, by omega, h2, m, k, ⟨q, hq, r1⟩, ⟨t, ht, r2⟩, e3⟩⟩
theorem cuts_least {P Q : List PySem.Str → Int → Prop} {ls : List PySem.Str} {f g : Nat → Option Int} {o : Option Int} (hf : ∀ i, i ≤ ls.length → LeastO (P (ls.take i)) (f i)) (hg : ∀ i, i ≤ ls.length → LeastO (Q (ls.drop i)) (g i)) (h : LeastO (CutR P Q ls) o) : LeastO (CutN f g ls.length) o := by
  refine LeastO.both ?_ ?_ h
  · rintro n ⟨i, hi, m, k, h1, h2, rfl⟩
    have a := hf i hi
    have b := hg i hi
    cases ef : f i with
    | none =>
      rw [ef] at a
      exact absurd h1 (a m)
    | some m' =>
      rw [ef] at a
      cases eg : g i with
      | none =>
        rw [eg] at b
        exact absurd h2 (b k)
      | some k' =>
        rw [eg] at b
        have := a.2 m h1
        have := b.2 k h2
        exact ⟨m' + k', by omega, i, hi, m', k', ef, eg, rfl⟩
  · rintro n ⟨i, hi, m, k, h1, h2, rfl⟩
    have a := hf i hi
    have b := hg i hi
    rw [h1] at a
    rw [h2] at b
    exact ⟨m + k, Int.le_refl _, i, hi, m, k, a.1, b.1, rfl⟩
theorem cutN_rev {f g : Nat → Option Int} {L : Nat} (n : Int) : CutN (fun i => g (L - i)) (fun i => f (L - i)) L n ↔ CutN f g L n := by
  constructor
  · rintro ⟨i, hi, m, k, h1, h2, rfl⟩
    exact ⟨L - i, by omega, k, m, h2, h1, by omega⟩
  · rintro ⟨i, hi, m, k, h1, h2, rfl⟩
    have e : L - (L - i) = i := by omega
    exact ⟨L - i, by omega, k, m, by show g (L - (L - i)) = some k; rw [e]; exact h2, by show f (L - (L - i)) = some m; rw [e]; exact h1, by omega⟩
/-- arrows, starts, ends of one behind the other -/
structure JoinOf (zs : List Arw) (ss es : List PySem.Str) (M N : MachV) : Prop where
  price : ∀ (ls : List PySem.Str) (f g : Nat → Option Int) (o : Option Int), (∀ i, i ≤ ls.length → LPr M.ars M.sts M.ens (ls.take i) (f i)) → (∀ i, i ≤ ls.length → LPr N.ars N.sts N.ens (ls.drop i) (g i)) → LPr zs ss es ls o → LeastO (CutN f g ls.length) o
  ar : ∀ z ∈ zs, z.s ∈ M.sta ++ N.sta ∧ z.t ∈ M.sta ++ N.sta
  st : ∀ s ∈ ss, s ∈ M.sta ++ N.sta
  en : ∀ s ∈ es, s ∈ M.sta ++ N.sta
  ok : ∀ z ∈ zs, z.Ok
  xl : zs.length ≤ 400
theorem join_of {M N : MachV} {zs : List Arw} {F1 F2 : List PySem.Str} {b : Bool} (hM : MFine M) (hN : MFine N) (d : ∀ s ∈ M.sta, s ∉ N.sta) (hb : b = true ↔ ∃ m, Runs M.ars M.sts M.ens [] m)
    (hK : Kept (jA M.ars N.ars M.ens N.sts) (M.sts ++ if b = true then N.sts else []) N.ens F1 F2) (hc : CheapOf ((jA M.ars N.ars M.ens N.sts).filter (kpA F1 F2)) zs) (l : (jA M.ars N.ars M.ens N.sts).length ≤ 400) :
    JoinOf zs ((M.sts ++ if b = true then N.sts else []).filter (kp F1 F2)) (N.ens.filter (kp F1 F2)) M N := by
  have sub : ∀ z ∈ zs, z ∈ jA M.ars N.ars M.ens N.sts := fun z hz => (List.mem_filter.mp (hc.sub z hz).1).1
  have jin : ∀ z ∈ jA M.ars N.ars M.ens N.sts, (z.s ∈ M.sta ++ N.sta ∧ z.t ∈ M.sta ++ N.sta) ∧ z.Ok := fun z hz => by
    rcases List.mem_append.mp hz with h | h
    · rcases List.mem_append.mp h with h | h
      · exact ⟨⟨List.mem_append_left _ (hM.ar z h).1, List.mem_append_left _ (hM.ar z h).2⟩, hM.ok z h⟩
      · exact ⟨⟨List.mem_append_right _ (hN.ar z h).1, List.mem_append_right _ (hN.ar z h).2⟩, hN.ok z h⟩
    · obtain ⟨x, hx, _, s, hs, rfl⟩ := lks_mem.mp h
      have o := hM.ok x hx
      exact ⟨⟨List.mem_append_left _ (hM.ar x hx).1, List.mem_append_right _ (hN.st s hs)⟩, ⟨o.s, o.l, hN.nm s (hN.st s hs), o.c0, o.c1⟩⟩
  refine ⟨fun ls f g o hf hg ho => ?_, fun z hz => (jin z (sub z hz)).1, fun s hs => ?_, fun s hs => List.mem_append_right _ (hN.en s (List.mem_filter.mp hs).1), fun z hz => (jin z (sub z hz)).2, Nat.le_trans (Nat.le_trans (nodup_le (cheap_nodup hc) fun y hy => (hc.sub y hy).1) (List.length_filter_le ..)) l⟩
  · have h1 := (LPr.kept hK).mp ((LPr.cheap hc (fun _ => Iff.rfl) (fun _ => Iff.rfl)).mp ho)
    exact cuts_least (P := Runs M.ars M.sts M.ens) (Q := Runs N.ars N.sts N.ens) hf hg (LeastO.iff (fun n => join_runs hM.ar hN.ar d hM.st hN.st hN.en hb ls n) h1)
  · rcases List.mem_append.mp (List.mem_filter.mp hs).1 with h | h
    · exact List.mem_append_left _ (hM.st s h)
    · split at h
      · exact List.mem_append_right _ (hN.st s h)
      · cases h
/-- R reads a row of M and behind it one of N -/
structure BehindOf (R M N : MachV) : Prop where
  price : ∀ (ls : List PySem.Str) (f g : Nat → Option Int) (o : Option Int), (∀ i, i ≤ ls.length → LPr M.ars M.sts M.ens (ls.take i) (f i)) → (∀ i, i ≤ ls.length → LPr N.ars N.sts N.ens (ls.drop i) (g i)) → LeastO (fun n => ∃ e ∈ R.ens, Rch R.ars R.sts ls e n) o → LeastO (CutN f g ls.length) o
  len : R.sta.length ≤ M.sta.length + N.sta.length
theorem mof_len {R M N : MachV} {zs : List Arw} {ss es : List PySem.Str} (h : MOf R zs ss es) (ar : ∀ z ∈ zs, z.s ∈ M.sta ++ N.sta ∧ z.t ∈ M.sta ++ N.sta) (st : ∀ s ∈ ss, s ∈ M.sta ++ N.sta) (en : ∀ s ∈ es, s ∈ M.sta ++ N.sta) : R.sta.length ≤ M.sta.length + N.sta.length := by
  have q := nodup_le (ts := M.sta ++ N.sta) (asc_nodup h.sta.1) fun s hs => by
    rcases (h.sta.2 s).mp hs with h1 | h1 | ⟨x, hx, h1⟩
    · exact st s h1
    · exact en s h1
    · have := ar x (h.ars.sub x hx).1
      rcases h1 with h1 | h1
      · rw [h1]; exact this.1
      · rw [h1]; exact this.2
  rw [List.length_append] at q
  exact q
theorem behind_a {R M N : MachV} {zs : List Arw} {ss es : List PySem.Str} (j : JoinOf zs ss es M N) (h : MOf R zs ss es) : BehindOf R M N :=
  ⟨fun ls f g o hf hg ho => j.price ls f g o hf hg (h.price ho), mof_len h j.ar j.st j.en⟩
theorem turned_lpr {N T : MachV} (h : MOf T (N.ars.map swapA) N.ens N.sts) {ls : List PySem.Str} {o : Option Int} : LPr T.ars T.sts T.ens ls o ↔ LPr N.ars N.sts N.ens ls.reverse o := by
  refine (LPr.cheap h.ars h.sts.2 h.ens.2).trans ?_
  have := LPr.turn (xs := N.ars) (ss := N.sts) (es := N.ens) (ls := ls.reverse) (o := o)
  rw [List.reverse_reverse] at this
  exact this
theorem behind_b {R M N TM TN : MachV} {zs : List Arw} {ss es : List PySem.Str} (hM : MOf TM (M.ars.map swapA) M.ens M.sts) (hN : MOf TN (N.ars.map swapA) N.ens N.sts) (lM : TM.sta.length ≤ M.sta.length) (lN : TN.sta.length ≤ N.sta.length) (j : JoinOf zs ss es TN TM) (h : MOf R (zs.map swapA) es ss) : BehindOf R M N := by
  refine ⟨fun ls f g o hf hg ho => ?_, ?_⟩
  · have h1 : LPr (zs.map swapA) es ss ls o := h.price ho
    have h2 : LPr zs ss es ls.reverse o := by
      have := LPr.turn (xs := zs) (ss := ss) (es := es) (ls := ls.reverse) (o := o)
      rw [List.reverse_reverse] at this
      exact this.mp h1
    have h3 := j.price ls.reverse (fun i => g (ls.length - i)) (fun i => f (ls.length - i)) o (fun i hi => ?_) (fun i hi => ?_) h2
    · rw [List.length_reverse] at h3
      exact LeastO.iff cutN_rev h3
    · refine (turned_lpr hN).mpr ?_
      rw [List.take_reverse, List.reverse_reverse]
      exact hg _ (by omega)
    · refine (turned_lpr hM).mpr ?_
      rw [List.drop_reverse, List.reverse_reverse]
      exact hf _ (by omega)
  · have q := mof_len (M := TN) (N := TM) h (fun z hz => by
      obtain ⟨y, hy, rfl⟩ := List.mem_map.mp hz
      exact ⟨(j.ar y hy).2, (j.ar y hy).1⟩) j.en j.st
    omega
theorem BehindOf.rn {R M N M' N' : MachV} {f g : PySem.Str → PySem.Str} (hM : MFine M) (hN : MFine N) (rf : RnOf "a" M f) (rg : RnOf "b" N g) (h1 : MOf M' (M.ars.map (rnA f)) (M.sts.map f) (M.ens.map f)) (h2 : MOf N' (N.ars.map (rnA g)) (N.sts.map g) (N.ens.map g))
    (l1 : M'.sta.length ≤ M.sta.length) (l2 : N'.sta.length ≤ N.sta.length) (h : BehindOf R M' N') : BehindOf R M N := by
  refine ⟨fun ls p q o hp hq ho => h.price ls p q o (fun i hi => ?_) (fun i hi => ?_) ho, by have := h.len; omega⟩
  · exact (LPr.cheap h1.ars h1.sts.2 h1.ens.2).mpr ((LPr.rn hM.ar rf.2 hM.st hM.en).mpr (hp i hi))
  · exact (LPr.cheap h2.ars h2.sts.2 h2.ens.2).mpr ((LPr.rn hN.ar rg.2 hN.st hN.en).mpr (hq i hi))
/-- small enough to be put behind another -/
structure Lit (M : MachV) : Prop where
  n : M.sta.length ≤ 20
  x : M.ars.length ≤ 20
  s : M.sts.length ≤ 20
  e : M.ens.length ≤ 20
theorem lit_of {M : MachV} {xs : List Arw} {ss es : List PySem.Str} (h : MOf M xs ss es) (l : M.sta.length ≤ 20) (x : xs.length ≤ 20) : Lit M where
  n := l
  x := Nat.le_trans (nodup_le (cheap_nodup h.ars) fun y hy => (h.ars.sub y hy).1) x
  s := Nat.le_trans (nodup_le (asc_nodup h.sts.1) fun s hs => (h.sta.2 s).mpr (.inl ((h.sts.2 s).mp hs))) l
  e := Nat.le_trans (nodup_le (asc_nodup h.ens.1) fun s hs => (h.sta.2 s).mpr (.inr (.inl ((h.ens.2 s).mp hs)))) l
/-- arrows into the ends, out of the starts -/
def inE (M : MachV) : Nat := (M.ars.filter fun x => decide (x.t ∈ M.ens)).length
def outS (M : MachV) : Nat := (M.ars.filter fun x => decide (x.s ∈ M.sts)).length
def spJoined (C : Addr) : Sp := fun vs H Q _ => ∃ (m n : Addr) (M N : MachV), vs = [.ref m, .ref n] ∧ IsMach C H m M ∧ IsMach C H n N ∧ MFine M ∧ MFine N ∧ Lit M ∧ Lit N ∧ inE M * N.sts.length ≤ 300 ∧ (∀ s ∈ M.sta, s ∉ N.sta) ∧
  ∀ (t q1 q2 q3 : Addr) (ws : List V) (zs : List Arw) (ss es : List PySem.Str) (H' : Hp), H' t = some (.tup [.ref q1, .ref q2, .ref q3]) → H' q1 = some (.tup ws) → ArS H' ws zs → H' q2 = some (.lst (ss.map V.str)) → H' q3 = some (.lst (es.map V.str)) → ss.length ≤ 40 → es.length ≤ 20 →
    JoinOf zs ss es M N → Same H H' → Q (.ref t) H'
def spBehind (C : Addr) : Sp := fun vs H Q _ => ∃ (m n : Addr) (M N : MachV), vs = [.ref m, .ref n] ∧ IsMach C H m M ∧ IsMach C H n N ∧ MFine M ∧ MFine N ∧ Asc M.sta ∧ Asc N.sta ∧ Lit M ∧ Lit N ∧ inE M * N.sts.length ≤ 300 ∧ outS N * M.ens.length ≤ 300 ∧
  ∀ (q : Addr) (R : MachV) (H' : Hp), H q = none → IsMach C H' q R → MFine R → BehindOf R M N → Same H H' → Q (.ref q) H'
end Bz

namespace Bz
open PySem PySem.Spec PyProof.Rows L2
open AutoSeq1 (wpAny_loadPart')
/-! ### xs.extend(tuple) -/
theorem extend_tup (l : Addr) (items : Array Value) (n : Nat) (b : Addr) (items2 : Array Value) (n2 : Nat) (dj : Option Addr) (sl : Array (Option Value)) (hs0 : ¬(!items.isEmpty && Builtin.List.listTooLong (items.size + items2.size)) = true) (hs1 : items.size ≤ sizeLine) (hs2 : items.size + items2.size ≤ sizeLine + 1) :
    Meets (Builtin.«list.extend» ⟨[.ref l, .ref b], []⟩) (fun _ R s => s.heap.get? l = some { cls := .type "list", dict := none, data := .seq items n, slots := #[] } ∧ s.heap.get? b = some { cls := .type "tuple", dict := dj, data := .seq items2 n2, slots := sl } ∧ R (.ok (.ret Value.none)) { s with heap := s.heap.update l (Obj.mapSeq fun x => x ++ items2), toks := s.toks }) :=
  .of_wp fun prog w A R s h => by
    obtain ⟨hp, g, d, tk, os⟩ := s; obtain ⟨hl, hb, h⟩ := h; have f1 := AutoSeq1.idx_int; have f2 := AutoSeq1.sub_tuple_tuple; have f3 := AutoSeq1.sub_list_list; have f4 := AutoSeq1.sub_tuple_list; have f5 := AutoSeq1.sub_list_tuple;
    have hz' : (items ++ items2).size ≤ sizeLine + 1 := by rw [Array.size_append]; exact hs2
    wp_walk using (wpAny_updateSeq hl rfl (hz := hs1) (_hz' := hz')), wpAny_loadPart' hl, wpAny_loadPart' hb; exact ⟨_, rfl, h⟩
def rExtendT (K : PySem.W.Frag) : V → List V → Hp → VK → Prop := fun x vs H Q => ∃ l b xs zs, x = .ref l ∧ vs = [.ref b] ∧ H l = some (.lst xs) ∧ SqT K H b zs ∧ xs.length + zs.length ≤ sizeLine ∧ Q .non (upd H l (.lst (xs ++ zs)))
theorem mt_extendT {X : Cx} : MtM X "list.extend" (rExtendT X.K) := by
  intro pins s σ H x vs v us Q I rx rv h
  obtain ⟨l, b, xs, zs, rfl, rfl, hH, hB, hz, q⟩ := h
  cases rx
  obtain ⟨u, rfl, ru⟩ := rv.one
  cases ru
  obtain ⟨z, its, n, r, hl, e⟩ := I.lstM hH
  obtain ⟨its2, r2, ⟨⟨c, dj, dt, sl⟩, gl, gc, n2, gd⟩, z2⟩ := I.tuple hB
  replace gc : c = .type "tuple" := gc
  replace gd : dt = .seq its2.toArray n2 := gd
  subst gc gd
  have hl2 := r2.length
  have hsz : its.toArray.size + its2.toArray.size ≤ sizeLine := by rw [List.size_toArray, List.size_toArray]; omega
  have hlong : ¬ (!its.toArray.isEmpty && Builtin.List.listTooLong (its.toArray.size + its2.toArray.size)) = true := by
    rw [notLongL hsz, Bool.and_false]
    exact Bool.false_ne_true
  refine call_meets F.slot_list_extend ⟨_, e, rfl⟩ F.entry_list_extend (F.args_list_extend_2 _ _)
    (extend_tup l its.toArray n b its2.toArray n2 dj sl hlong (by rw [List.size_toArray]; omega) (by omega)) ⟨e, gl, ?_⟩
  refine ⟨.non, _, I.lset (its' := its ++ its2) hH e (by simp) (r.append r2) ?_, rfl, q⟩
  rw [List.length_append]
  omega
theorem kmt_extendT (K : PySem.W.Frag) {X : Cx} (h : X.K = K := by rfl) : MtM X "list.extend" (rExtendT K) := by subst h; exact mt_extendT
end Bz

namespace Bz
open PySem PySem.Spec PyProof.Rows L2
theorem mof_sta {R : MachV} {zs : List Arw} {ss es ns : List PySem.Str} (h : MOf R zs ss es) (ar : ∀ z ∈ zs, z.s ∈ ns ∧ z.t ∈ ns) (st : ∀ s ∈ ss, s ∈ ns) (en : ∀ s ∈ es, s ∈ ns) : ∀ s ∈ R.sta, s ∈ ns := fun s hs => by
  rcases (h.sta.2 s).mp hs with h1 | h1 | ⟨x, hx, h1⟩
  · exact st s h1
  · exact en s h1
  · have := ar x (h.ars.sub x hx).1
    rcases h1 with h1 | h1
    · rw [h1]; exact this.1
    · rw [h1]; exact this.2
theorem rn_fine {M R : MachV} {g : PySem.Str} {f : PySem.Str → PySem.Str} (hg : Lt g) (rf : RnOf g M f) (hF : MFine M) (hL : Lit M) (h : MOf R (M.ars.map (rnA f)) (M.sts.map f) (M.ens.map f)) : MFine R ∧ Lit R ∧ (∀ s ∈ R.sta, s ∈ M.sta.map f) ∧ R.sta.length ≤ M.sta.length := by
  obtain ⟨r1, r2, r3, r4, r5⟩ := rn_ok hg rf hF
  have sub := mof_sta h r5 r3 r4
  have le : R.sta.length ≤ M.sta.length := by
    have := nodup_le (asc_nodup h.sta.1) sub
    rw [List.length_map] at this
    exact this
  have l1 := hL.n
  have l2 := hL.x
  exact ⟨fine_of h r1 (by rw [List.length_map]; omega) r2 (by rw [List.length_map]; omega) r3 r4 r5, lit_of h (by omega) (by rw [List.length_map]; exact l2), sub, le⟩
theorem turn_fine {M R : MachV} (hF : MFine M) (hL : Lit M) (h : MOf R (M.ars.map swapA) M.ens M.sts) : MFine R ∧ Lit R ∧ (∀ s ∈ R.sta, s ∈ M.sta) ∧ R.sta.length ≤ M.sta.length := by
  have sub := mof_sta (ns := M.sta) h (fun z hz => by
    obtain ⟨y, hy, rfl⟩ := List.mem_map.mp hz
    exact ⟨(hF.ar y hy).2, (hF.ar y hy).1⟩) hF.en hF.st
  have le := nodup_le (asc_nodup h.sta.1) sub
  have l1 := hL.n
  exact ⟨hF.turn h, lit_of h (by omega) (by rw [List.length_map]; exact hL.x), sub, le⟩
theorem ab_apart {M N : MachV} {f g : PySem.Str → PySem.Str} (rf : RnOf "a" M f) (rg : RnOf "b" N g) : ∀ s ∈ M.sta.map f, s ∉ N.sta.map g := fun s hs c => by
  obtain ⟨x, hx, rfl⟩ := List.mem_map.mp hs
  obtain ⟨y, hy, e⟩ := List.mem_map.mp c
  obtain ⟨j, _, ej⟩ := rf.1 x hx
  obtain ⟨k, _, ek⟩ := rg.1 y hy
  rw [ej, ek] at e
  exact gk_ne lt_ab.2 lt_ab.1 (by decide) e
theorem join_fine {R M N : MachV} {zs : List Arw} {ss es : List PySem.Str} (hM : MFine M) (hN : MFine N) (lM : Lit M) (lN : Lit N) (j : JoinOf zs ss es M N) (h : MOf R zs ss es) : MFine R := by
  have a := lM.n
  have b := lN.n
  exact fine_of (ns := M.sta ++ N.sta) h j.ok j.xl (fun s hs => (List.mem_append.mp hs).elim (hM.nm s) (hN.nm s)) (by rw [List.length_append]; omega) j.st j.en j.ar
theorem join_fine' {R M N : MachV} {zs : List Arw} {ss es : List PySem.Str} (hM : MFine M) (hN : MFine N) (lM : Lit M) (lN : Lit N) (j : JoinOf zs ss es M N) (h : MOf R (zs.map swapA) es ss) : MFine R := by
  have a := lM.n
  have b := lN.n
  exact fine_of (ns := M.sta ++ N.sta) h (fun z hz => by
    obtain ⟨y, hy, rfl⟩ := List.mem_map.mp hz
    exact swap_ok (j.ok y hy)) (by rw [List.length_map]; exact j.xl) (fun s hs => (List.mem_append.mp hs).elim (hM.nm s) (hN.nm s)) (by rw [List.length_append]; omega) j.en j.st fun z hz => by
    obtain ⟨y, hy, rfl⟩ := List.mem_map.mp hz
    exact ⟨(j.ar y hy).2, (j.ar y hy).1⟩
theorem rn_few {M R : MachV} {g : PySem.Str} {f : PySem.Str → PySem.Str} (rf : RnOf g M f) (hF : MFine M) (h : MOf R (M.ars.map (rnA f)) (M.sts.map f) (M.ens.map f)) : inE R ≤ inE M ∧ outS R ≤ outS M ∧ R.sts.length ≤ M.sts.length ∧ R.ens.length ≤ M.ens.length := by
  refine ⟨?_, ?_, ?_, ?_⟩
  · unfold inE
    have q := nodup_le (ts := (M.ars.filter fun x => decide (x.t ∈ M.ens)).map (rnA f)) ((cheap_nodup h.ars).filter (fun x => decide (x.t ∈ R.ens))) fun y hy => by
      obtain ⟨h1, h2⟩ := List.mem_filter.mp hy
      obtain ⟨x, hx, rfl⟩ := List.mem_map.mp (h.ars.sub y h1).1
      obtain ⟨e, he, e2⟩ := List.mem_map.mp ((h.ens.2 _).mp (of_decide_eq_true h2))
      have : e = x.t := rf.2 e (hF.en e he) x.t (hF.ar x hx).2 e2
      exact List.mem_map.mpr ⟨x, List.mem_filter.mpr ⟨hx, decide_eq_true (by rw [← this]; exact he)⟩, rfl⟩
    rw [List.length_map] at q
    exact q
  · unfold outS
    have q := nodup_le (ts := (M.ars.filter fun x => decide (x.s ∈ M.sts)).map (rnA f)) ((cheap_nodup h.ars).filter (fun x => decide (x.s ∈ R.sts))) fun y hy => by
      obtain ⟨h1, h2⟩ := List.mem_filter.mp hy
      obtain ⟨x, hx, rfl⟩ := List.mem_map.mp (h.ars.sub y h1).1
      obtain ⟨e, he, e2⟩ := List.mem_map.mp ((h.sts.2 _).mp (of_decide_eq_true h2))
      have : e = x.s := rf.2 e (hF.st e he) x.s (hF.ar x hx).1 e2
      exact List.mem_map.mpr ⟨x, List.mem_filter.mpr ⟨hx, decide_eq_true (by rw [← this]; exact he)⟩, rfl⟩
    rw [List.length_map] at q
    exact q
  · have q := nodup_le (asc_nodup h.sts.1) fun s hs => (h.sts.2 s).mp hs
    rw [List.length_map] at q
    exact q
  · have q := nodup_le (asc_nodup h.ens.1) fun s hs => (h.ens.2 s).mp hs
    rw [List.length_map] at q
    exact q
theorem turn_few {M R : MachV} (h : MOf R (M.ars.map swapA) M.ens M.sts) : inE R ≤ outS M ∧ R.sts.length ≤ M.ens.length := by
  refine ⟨?_, nodup_le (asc_nodup h.sts.1) fun s hs => (h.sts.2 s).mp hs⟩
  unfold inE outS
  have q := nodup_le (ts := (M.ars.filter fun x => decide (x.s ∈ M.sts)).map swapA) ((cheap_nodup h.ars).filter (fun x => decide (x.t ∈ R.ens))) fun y hy => by
    obtain ⟨h1, h2⟩ := List.mem_filter.mp hy
    obtain ⟨x, hx, rfl⟩ := List.mem_map.mp (h.ars.sub y h1).1
    exact List.mem_map.mpr ⟨x, List.mem_filter.mpr ⟨hx, decide_eq_true ((h.ens.2 _).mp (of_decide_eq_true h2))⟩, rfl⟩
  rw [List.length_map] at q
  exact q
end Bz

namespace Bz
open PySem PySem.Spec PyProof.Rows L2
theorem least_ex {P : Int → Prop} (h0 : ∀ n, P n → 0 ≤ n) : ∃ o, LeastO P o := by
  by_cases h : ∃ n, P n
  · obtain ⟨n, hn⟩ := h
    have key : ∀ k : Nat, ∀ n : Int, n.toNat = k → P n → ∃ o, LeastO P o := by
      intro k
      induction k using Nat.strongRecOn with
      | _ k ih =>
        intro n e hn
        by_cases c : ∃ m, P m ∧ m < n
        · obtain ⟨m, hm, hl⟩ := c
          have := h0 m hm
          exact ih m.toNat (by omega) m rfl hm
        · exact ⟨some n, hn, fun m hm => by
            by_cases d : m < n
            · exact absurd ⟨m, hm, d⟩ c
            · omega⟩
    exact key _ n rfl hn
  · exact ⟨none, fun n hn => h ⟨n, hn⟩⟩
theorem run_pos {xs : List Arw} (hx : ∀ x ∈ xs, 0 ≤ x.c) : ∀ (ls : List PySem.Str) (a b : PySem.Str) (n : Int), RunS xs ls a b n → 0 ≤ n
  | [], _, _, n, h => by rw [h.2]; exact Int.le_refl 0
  | l :: ls, a, b, n, h => by
    obtain ⟨x, hxm, _, _, m, r, e⟩ := h
    have := run_pos hx ls _ _ _ r
    have := hx x hxm
    omega
theorem lpr_ex {M : MachV} (h : MFine M) (ls : List PySem.Str) : ∃ o, LPr M.ars M.sts M.ens ls o := least_ex fun n ⟨_, _, _, _, r⟩ => run_pos (fun x hx => (h.ok x hx).c0) _ _ _ _ r
/-- the sums of least prices over all cuts -/
def CutL (xs ys : List Arw) (ss es ts fs ls : List PySem.Str) (L : Nat) (n : Int) : Prop := ∃ i, i < L ∧ ∃ m k, LPr xs ss es (ls.take i) (some m) ∧ LPr ys ts fs (ls.drop i) (some k) ∧ n = m + k
def spDue (K : PySem.W.Frag) : Sp := fun vs H Q _ => ∃ (p a b e : Addr) (us : List V) (xs : List Arw) (ss es : List PySem.Str) (q c d g : Addr) (ws : List V) (ys : List Arw) (ts fs : List PySem.Str) (row : PySem.Str), vs = [.ref p, .ref q, .str row] ∧ MadeL K H p a b e us xs ss es ∧ MadeL K H q c d g ws ys ts fs ∧
  xs.length ≤ 1000 ∧ ss.length ≤ 1000 ∧ es.length ≤ 1000 ∧ ys.length ≤ 1000 ∧ ts.length ≤ 1000 ∧ fs.length ≤ 1000 ∧ row.length ≤ 1000 ∧
  ∀ (o : Option Int) (H' : Hp), LeastO (CutL xs ys ss es ts fs (sgnL row) (row.length + 1)) o → Same H H' → Q (optV o) H'
theorem behind_due {R M N : MachV} {xs ys : List Arw} {ss es ts fs ls : List PySem.Str} {o o' : Option Int} (fM : MFine M) (fN : MFine N) (hM : MOf M xs ss es) (hN : MOf N ys ts fs) (h : BehindOf R M N) (ho : LeastO (fun n => ∃ e ∈ R.ens, Rch R.ars R.sts ls e n) o) (hd : LeastO (CutL xs ys ss es ts fs ls (ls.length + 1)) o') : o = o' := by
  have a : ∀ i, LPr M.ars M.sts M.ens (ls.take i) (Classical.choose (lpr_ex fM (ls.take i))) := fun i => Classical.choose_spec (lpr_ex fM (ls.take i))
  have b : ∀ i, LPr N.ars N.sts N.ens (ls.drop i) (Classical.choose (lpr_ex fN (ls.drop i))) := fun i => Classical.choose_spec (lpr_ex fN (ls.drop i))
  generalize hf : (fun i => Classical.choose (lpr_ex fM (ls.take i))) = f at a
  generalize hg : (fun i => Classical.choose (lpr_ex fN (ls.drop i))) = g at b
  have a' : ∀ i, LPr M.ars M.sts M.ens (ls.take i) (f i) := fun i => by rw [← hf]; exact Classical.choose_spec (lpr_ex fM (ls.take i))
  have b' : ∀ i, LPr N.ars N.sts N.ens (ls.drop i) (g i) := fun i => by rw [← hg]; exact Classical.choose_spec (lpr_ex fN (ls.drop i))
  refine LeastO.uniq (h.price ls f g o (fun i _ => a' i) (fun i _ => b' i) ho) (LeastO.iff (fun n => ?_) hd)
  constructor
  · rintro ⟨i, hi, m, k, h1, h2, e⟩
    refine ⟨i, by omega, m, k, LPr.uniq (a' i) ((LPr.cheap hM.ars hM.sts.2 hM.ens.2).mpr h1), LPr.uniq (b' i) ((LPr.cheap hN.ars hN.sts.2 hN.ens.2).mpr h2), e⟩
  · rintro ⟨i, hi, m, k, h1, h2, e⟩
    have c := a' i
    have d := b' i
    rw [h1] at c
    rw [h2] at d
    exact ⟨i, by omega, m, k, (LPr.cheap hM.ars hM.sts.2 hM.ens.2).mp c, (LPr.cheap hN.ars hN.sts.2 hN.ens.2).mp d, e⟩
end Bz

namespace Bz
open PySem PySem.Spec PyProof.Rows L2
theorem kall1 (K : PySem.W.Frag) {X : Cx} (hc : X.calm = true) (h : X.K = K := by rfl) : CallR X (.builtin "all") (rAll K) := by subst h; exact cr_all hc
/-- as HMade, the ends in a list of their own -/
def HMadeX (K : PySem.W.Frag) (H : Hp) (p q : Addr) (xs : List Arw) (ss es ns : List PySem.Str) : Prop := ∃ a b e us, MadeL K H q a b e us xs ss es ∧ H e = some (.lst (es.map V.str)) ∧ a ≠ p ∧ b ≠ p ∧ e ≠ p ∧ GMade xs ss es ns
theorem HMadeX.same {K : PySem.W.Frag} {H H' : Hp} {p q : Addr} {xs : List Arw} {ss es ns : List PySem.Str} (h : HMadeX K H p q xs ss es ns) (e : Same H H') : HMadeX K H' p q xs ss es ns := by
  obtain ⟨a, b, c, us, m, x, r⟩ := h
  exact ⟨a, b, c, us, m.same e, e _ _ x, r⟩
theorem HMadeX.ext {K : PySem.W.Frag} {H H' : Hp} {p q : Addr} {c : Nat} {xs : List Arw} {ss es ns : List PySem.Str} (h : HMadeX K H p q xs ss es ns) (s : Src H p c) (e : Ext p H H') : HMadeX K H' p q xs ss es ns := by
  obtain ⟨a, b, z, us, m, x, n1, n2, n3, r⟩ := h
  exact ⟨a, b, z, us, m.ext s n1 n2 n3 e, e z _ n3 x, n1, n2, n3, r⟩
theorem HMadeX.h {K : PySem.W.Frag} {H : Hp} {p q : Addr} {xs : List Arw} {ss es ns : List PySem.Str} (h : HMadeX K H p q xs ss es ns) : HMade K H p q xs ss es ns := by
  obtain ⟨a, b, z, us, m, x, r⟩ := h
  exact ⟨a, b, z, us, m, r⟩
theorem made_hx {K : PySem.W.Frag} {H : Hp} {p q : Addr} {xs : List Arw} {ss es : List PySem.Str} {m n : Int} (h : Made K p H q xs ss es) (k : MOk xs ss es m n) (hm : m ≤ 4) (hn : n ≤ 10) : ∃ ns, HMadeX K H p q xs ss es ns ∧ (ns.length : Int) ≤ m ∧ (xs.length : Int) ≤ n ∧ (es.length : Int) ≤ m + 1 := by
  obtain ⟨a1, a2, a3, vs, nq, n1, n2, n3, hq, h1, hA, h2, h3⟩ := h
  obtain ⟨ns, hn1, hn2, hn3, hn4, hn5, hn6⟩ := k.nms
  have l := k.len
  have sl := k.slen
  have el := k.elen
  exact ⟨ns, ⟨a1, a2, a3, vs, ⟨hq, SqL.of h1, hA.s, SqL.of h2, SqL.of h3⟩, h3, n1, n2, n3, ⟨ok_of k, hn1, by omega, by omega, by omega, by omega, hn5, hn6, hn4⟩⟩, hn2, l.2, el.2⟩
/-- an end more, the first start -/
theorem GMade.more {xs : List Arw} {ss es ns : List PySem.Str} (g : GMade xs ss es ns) (l : es.length ≤ 5) : GMade xs ss (es ++ ss.take 1) ns where
  ok := g.ok
  nm := g.nm
  nl := g.nl
  xl := g.xl
  sl := g.sl
  el := by rw [List.length_append, List.length_take]; omega
  si := g.si
  ei := fun z hz => (List.mem_append.mp hz).elim (g.ei z) fun h => g.si z (List.mem_of_mem_take h)
  ai := g.ai
end Bz

namespace Bz
open PySem PySem.Spec PyProof.Rows L2
/-! ### defs that may raise, methods, properties that are worked out, own == and != -/
section
variable {P : Program} {w : World} {K : PySem.W.Frag} {mg : PySem.Str → Option Value} {base : Heap} {k : Nat} {x m qual : PySem.Str} {C : Addr} {st : Stmt} {ps N : List PySem.Str} {sp : Sp}
theorem keepsX (D : DefAt K mg x st ps) (S : FnScope N ps (defScope st)) (len : ∀ vs H Q E, sp vs H Q E → vs.length = ps.length)
    (hbody : ∀ (f : Addr) (cdv : Value) (A : Around) (outer : List Env) (s : Shared) (H : Hp) (vs : List V) (Q : VK) (E : XK), Room k (A.deeper (envOfC x (defScope st) s.heap.objs.size f cdv)) → sp vs H Q E →
      ∃ t, PSs (cxOf (L2.CX P w) P w K mg base N x (defScope st) f cdv A outer s H E) (defBody st) t ∧ t { nx := fun _ H' => Q .non H', rt := Q } (start N vs) H) : Keeps P w K mg base (L2.CX P w) (k + 1) x ps sp :=
  keeps_of D fun f fd F => F.okX S len (hbody f)
structure MethAt (K : PySem.W.Frag) (C : Addr) (m qual : PySem.Str) (st : Stmt) (ps : List PySem.Str) : Prop where
  ex : ∃ f fd, Meth K C m f ∧ Fun K m qual st f fd ∧ Binds K fd ps []
structure KeepsM (P : Program) (w : World) (K : PySem.W.Frag) (mg : PySem.Str → Option Value) (base : Heap) (CX : CXT) (C : Addr) (k : Nat) (m : PySem.Str) (ps : List PySem.Str) (sp : Sp) : Prop where
  ex : ∃ f fd, Meth K C m f ∧ FnOk P w K mg base CX k f fd ps sp ∧ Binds K fd ps []
theorem keepsM0 (D : MethAt K C m qual st ps) (S : FnScope N ps (defScope st)) (len : ∀ vs H Q E, sp vs H Q E → vs.length = ps.length)
    (hbody : ∀ (f : Addr) (cdv : Value) (A : Around) (outer : List Env) (s : Shared) (H : Hp) (vs : List V) (Q : VK) (E : XK), Room k (A.deeper (envOfC qual (defScope st) s.heap.objs.size f cdv)) → sp vs H Q E →
      ∃ t, PSs (cxOf CX0 P w K mg base N qual (defScope st) f cdv A outer s H E).nox (defBody st) t ∧ t { nx := fun _ H' => Q .non H', rt := Q } (start N vs) H) : KeepsM P w K mg base CX0 C (k + 1) m ps sp := by
  obtain ⟨f, fd, M, F, b⟩ := D.ex
  exact ⟨f, fd, M, F.ok S len (hbody f), b⟩
theorem keepsMX (D : MethAt K C m qual st ps) (S : FnScope N ps (defScope st)) (len : ∀ vs H Q E, sp vs H Q E → vs.length = ps.length)
    (hbody : ∀ (f : Addr) (cdv : Value) (A : Around) (outer : List Env) (s : Shared) (H : Hp) (vs : List V) (Q : VK) (E : XK), Room k (A.deeper (envOfC qual (defScope st) s.heap.objs.size f cdv)) → sp vs H Q E →
      ∃ t, PSs (cxOf (L2.CX P w) P w K mg base N qual (defScope st) f cdv A outer s H E) (defBody st) t ∧ t { nx := fun _ H' => Q .non H', rt := Q } (start N vs) H) : KeepsM P w K mg base (L2.CX P w) C (k + 1) m ps sp := by
  obtain ⟨f, fd, M, F, b⟩ := D.ex
  exact ⟨f, fd, M, F.okX S len (hbody f), b⟩
structure MakesX (P : Program) (w : World) (K : PySem.W.Frag) (mg : PySem.Str → Option Value) (base : Heap) (C : Addr) (k : Nat) (ps : List PySem.Str) (sp : Sp) : Prop where
  ex : ∃ f fd, Mk K C f ∧ FnOk P w K mg base (L2.CX P w) k f fd ps sp ∧ Binds K fd ps []
theorem makesX (D : InitAt K C qual st ps) (S : FnScope N ps (defScope st)) (len : ∀ vs H Q E, sp vs H Q E → vs.length = ps.length)
    (hbody : ∀ (f : Addr) (cdv : Value) (A : Around) (outer : List Env) (s : Shared) (H : Hp) (vs : List V) (Q : VK) (E : XK), Room k (A.deeper (envOfC qual (defScope st) s.heap.objs.size f cdv)) → sp vs H Q E →
      ∃ t, PSs (cxOf (L2.CX P w) P w K mg base N qual (defScope st) f cdv A outer s H E) (defBody st) t ∧ t { nx := fun _ H' => Q .non H', rt := Q } (start N vs) H) : MakesX P w K mg base C (k + 1) ps sp := by
  obtain ⟨f, fd, M, F, b⟩ := D.ex
  exact ⟨f, fd, M, F.okX S len (hbody f), b⟩
structure KeepsP (P : Program) (w : World) (K : PySem.W.Frag) (mg : PySem.Str → Option Value) (base : Heap) (C : Addr) (k : Nat) (x : PySem.Str) (sp : Sp) : Prop where
  ex : ∃ p g fd, PropOf K C x p g ∧ FnOk P w K mg base CX0 k g fd ["self"] sp ∧ Binds K fd ["self"] []
theorem keepsP (D : PropAt K C x qual st) (S : FnScope N ["self"] (defScope st)) (len : ∀ vs H Q E, sp vs H Q E → vs.length = (["self"] : List PySem.Str).length)
    (hbody : ∀ (f : Addr) (cdv : Value) (A : Around) (outer : List Env) (s : Shared) (H : Hp) (vs : List V) (Q : VK) (E : XK), Room k (A.deeper (envOfC qual (defScope st) s.heap.objs.size f cdv)) → sp vs H Q E →
      ∃ t, PSs (cxOf CX0 P w K mg base N qual (defScope st) f cdv A outer s H E).nox (defBody st) t ∧ t { nx := fun _ H' => Q .non H', rt := Q } (start N vs) H) : KeepsP P w K mg base C (k + 1) x sp := by
  obtain ⟨p, g, fd, M, F, b⟩ := D.ex
  exact ⟨p, g, fd, M, F.ok S len (hbody g), b⟩
end
section
variable {X : Cx} {CX : CXT} {k j : Nat} {x m : PySem.Str} {C : Addr} {ps : List PySem.Str} {sp : Sp} {e o : Expr} {es : List Expr} {p pos apos : Pos} {t : TA} {ta : TE} {W : WX} {E : XK}
/-- f(e, ..), f may raise, but does not here -/
theorem pe_ownN (F : Keeps X.prog X.w X.K X.mg X.base (L2.CX X.prog X.w) k x ps sp) (hr : Room j X.A) (ha : PA X (e :: es) t) (hj : k ≤ j := by decide) (hg : Gl X x := by rfl)
    (hdb : (x == ("__debug__" : PySem.Str)) = false := by decide) (he : starEach (e :: es) X.env = (false, eval e X.env) :: starEach es X.env := by rfl) (hpl : (backTo pos (starEach es X.env)).any (·.1) = false := by rfl) :
    PE X (.Call (.Name x p) (e :: es) [] pos) (tCall sp [] E0 t) := by
  obtain ⟨f, fd, G, m, kp, b⟩ := F.ex
  exact pe_call G (hr.mono hj) hg m kp b .nil passL ha hdb he hpl
/-- .. what it raises leaves this def, too -/
theorem pe_ownX (F : Keeps X.prog X.w X.K X.mg X.base (L2.CX X.prog X.w) k x ps sp) (hr : Room j X.A) (hx : Passes (L2.CX X.prog X.w) X E) (ha : PA X (e :: es) t) (hj : k ≤ j := by decide) (hg : Gl X x := by rfl)
    (hdb : (x == ("__debug__" : PySem.Str)) = false := by decide) (he : starEach (e :: es) X.env = (false, eval e X.env) :: starEach es X.env := by rfl) (hpl : (backTo pos (starEach es X.env)).any (·.1) = false := by rfl) :
    PE X (.Call (.Name x p) (e :: es) [] pos) (tCall sp [] E t) := by
  obtain ⟨f, fd, G, m, kp, b⟩ := F.ex
  exact pe_call G (hr.mono hj) hg m kp b .nil hx ha hdb he hpl
/-- .. in a try's body -/
theorem pe_ownS (F : Keeps X.prog X.w X.K X.mg X.base (L2.CX X.prog X.w) k x ps sp) (hr : Room j X.A) (tk : Takes X W) (ha : PA X (e :: es) t) (hj : k ≤ j := by decide) (hg : Gl X x := by rfl)
    (hdb : (x == ("__debug__" : PySem.Str)) = false := by decide) (he : starEach (e :: es) X.env = (false, eval e X.env) :: starEach es X.env := by rfl) (hpl : (backTo pos (starEach es X.env)).any (·.1) = false := by rfl) :
    PE X (.Call (.Name x p) (e :: es) [] pos) (tCallS sp (WE W) t) := by
  obtain ⟨f, fd, G, m, kp, b⟩ := F.ex
  exact pe_callS G (hr.mono hj) hg m kp b (fun σ => passAt tk σ) ha hdb he hpl
/-- o.m(e, ..) -/
theorem pe_mt {pl : Sem Bool} (c : Cls X.K C) (F : KeepsM X.prog X.w X.K X.mg X.base CX C k m ps sp) (hr : Room j X.A) (hx : Passes CX X E) (he : PE X o ta) (ha : PA X (e :: es) t) (hj : k ≤ j := by decide)
    (hst : starEach (e :: es) X.env = (false, eval e X.env) :: starEach es X.env := by rfl) (hpl : (backTo pos (starEach es X.env)).any (·.1) = false := by rfl)
    (ht : eval (.Call (.Attribute o m apos) (e :: es) [] pos) X.env = (do
      let ov ← eval o X.env
      standAt apos.atName
      let (f, first) ← holding [ov] (getMethod ov m pl)
      callWith pos f first (backTo pos (starEach (e :: es) X.env)) (backToKw pos (keywordEach [] X.env))) := by rfl) :
    PE X (.Call (.Attribute o m apos) (e :: es) [] pos) (tMeth C m sp [] E ta t) := by
  obtain ⟨f, fd, M, G, b⟩ := F.ex
  exact pe_meth he c M G (hr.mono hj) b .nil hx ha hst hpl ht
theorem pe_mt0 {pl : Sem Bool} (c : Cls X.K C) (F : KeepsM X.prog X.w X.K X.mg X.base CX C k m ps sp) (hr : Room j X.A) (hx : Passes CX X E) (he : PE X o ta) (hj : k ≤ j := by decide)
    (ht : eval (.Call (.Attribute o m apos) [] [] pos) X.env = (do
      let ov ← eval o X.env
      standAt apos.atName
      let (f, first) ← holding [ov] (getMethod ov m pl)
      callWith pos f first (backTo pos (starEach [] X.env)) (backToKw pos (keywordEach [] X.env))) := by rfl) :
    PE X (.Call (.Attribute o m apos) [] [] pos) (tMeth C m sp [] E ta tNil) := by
  obtain ⟨f, fd, M, G, b⟩ := F.ex
  exact pe_meth0 he c M G (hr.mono hj) b .nil hx ht
/-- .. in a try's body -/
def tMethT (C : Addr) (m : PySem.Str) (sp : Sp) (E : L2.St → XK) (ta : TE) (t : TA) : TE := fun σ H Q => ta σ H fun x H1 => ∃ a dx fs, x = .ref a ∧ H1 a = some (.ins C dx fs) ∧ fs.lookup m = none ∧ t σ H1 fun vs H2 => sp (x :: vs) H2 Q (E σ)
theorem pe_mtT {pl : Sem Bool} (c : Cls X.K C) (F : KeepsM X.prog X.w X.K X.mg X.base (L2.CX X.prog X.w) C k m ps sp) (hr : Room j X.A) (tk : Takes X W) (he : PE X o ta) (ha : PA X (e :: es) t) (hj : k ≤ j := by decide)
    (hst : starEach (e :: es) X.env = (false, eval e X.env) :: starEach es X.env := by rfl) (hpl : (backTo pos (starEach es X.env)).any (·.1) = false := by rfl)
    (ht : eval (.Call (.Attribute o m apos) (e :: es) [] pos) X.env = (do
      let ov ← eval o X.env
      standAt apos.atName
      let (f, first) ← holding [ov] (getMethod ov m pl)
      callWith pos f first (backTo pos (starEach (e :: es) X.env)) (backToKw pos (keywordEach [] X.env))) := by rfl) :
    PE X (.Call (.Attribute o m apos) (e :: es) [] pos) (tMethT C m sp (WE W) ta t) := by
  obtain ⟨f, fd, hm, F, hb⟩ := F.ex
  refine ⟨fun pins s σ H Q I h => ?_⟩
  refine PySem.W.methodCall_KW (pl := pl) (thn (he.run pins s σ H _ I h) fun u s1 ⟨x, H1, I1, rx, a, dx, fs, ex, ea, l, q⟩ => ?_) ht
  subst ex
  obtain rfl : u = Value.ref a := rx
  refine getmeth_ok I1 ea c hm l ?_
  refine PySem.W.callWith_K (first := [.ref a]) (h₀ := X.base) I.ok.mod.kin hm.kp (thn (ha.run pos pins s1 σ H1 _ I1 q) fun us s2 ⟨vs, H2, I2, r, q2⟩ => ⟨I2.kIn, ?_⟩) hst hpl
  exact run_fnS (us := .ref a :: us) (vs := .ref a :: vs) F (hr.mono hj) hb (passAt tk σ) I2 (.cons rfl r) q2
theorem pe_mtT0 {pl : Sem Bool} (c : Cls X.K C) (F : KeepsM X.prog X.w X.K X.mg X.base (L2.CX X.prog X.w) C k m ps sp) (hr : Room j X.A) (tk : Takes X W) (he : PE X o ta) (hj : k ≤ j := by decide)
    (ht : eval (.Call (.Attribute o m apos) [] [] pos) X.env = (do
      let ov ← eval o X.env
      standAt apos.atName
      let (f, first) ← holding [ov] (getMethod ov m pl)
      callWith pos f first (backTo pos (starEach [] X.env)) (backToKw pos (keywordEach [] X.env))) := by rfl) :
    PE X (.Call (.Attribute o m apos) [] [] pos) (tMethT C m sp (WE W) ta tNil) := by
  obtain ⟨f, fd, hm, F, hb⟩ := F.ex
  refine ⟨fun pins s σ H Q I h => ?_⟩
  refine PySem.W.methodCall_KW (pl := pl) (thn (he.run pins s σ H _ I h) fun u s1 ⟨x, H1, I1, rx, a, dx, fs, ex, ea, l, q⟩ => ?_) ht
  subst ex
  obtain rfl : u = Value.ref a := rx
  refine getmeth_ok I1 ea c hm l ?_
  exact PySem.W.callWith_K0 (first := [.ref a]) I1.kIn hm.kp (run_fnS (us := [.ref a]) (vs := [.ref a]) F (hr.mono hj) hb (passAt tk σ) I1 (.cons rfl .nil) q)
/-- C(e, ..), C's __init__ may raise, but does not here -/
theorem pe_mkN (M : MakesX X.prog X.w X.K X.mg X.base C k ps sp) (hr : Room j X.A) (hm : X.mg x = some (.ref C)) (ha : PA X (e :: es) t) (hj : k + 1 ≤ j := by decide) (hg : Gl X x := by rfl)
    (hdb : (x == ("__debug__" : PySem.Str)) = false := by decide) (he : starEach (e :: es) X.env = (false, eval e X.env) :: starEach es X.env := by rfl) (hpl : (backTo pos (starEach es X.env)).any (·.1) = false := by rfl) :
    PE X (.Call (.Name x p) (e :: es) [] pos) (tMake C sp [] E0 t) := by
  obtain ⟨f, fd, M, F, b⟩ := M.ex
  exact pe_make M F (hr.mono hj) hg hm b .nil passL ha hdb he hpl
/-- .. in a try's body -/
def tMakeT (C : Addr) (sp : Sp) (E : L2.St → XK) (t : TA) : TE := fun σ H Q => t σ H fun vs H1 => ∀ x dx, H1 x = none → H1 dx = none → dx ≠ x → sp (.ref x :: vs) (upd (upd H1 dx (.own x)) x (.ins C dx [])) (fun v H2 => v = .non ∧ Q (.ref x) H2) (E σ)
theorem pe_mkT (M : MakesX X.prog X.w X.K X.mg X.base C k ps sp) (hr : Room j X.A) (tk : Takes X W) (hm : X.mg x = some (.ref C)) (ha : PA X (e :: es) t) (hj : k + 1 ≤ j := by decide) (hg : Gl X x := by rfl)
    (hdb : (x == ("__debug__" : PySem.Str)) = false := by decide) (he : starEach (e :: es) X.env = (false, eval e X.env) :: starEach es X.env := by rfl) (hpl : (backTo pos (starEach es X.env)).any (·.1) = false := by rfl) :
    PE X (.Call (.Name x p) (e :: es) [] pos) (tMakeT C sp (WE W) t) := by
  obtain ⟨f, fd, M, F, hb⟩ := M.ex
  refine ⟨fun pins s σ H Q I h => ?_⟩
  refine wpAny_Call_Name_kw (ld_glob I hg hm ?_ hdb)
  refine PySem.W.callWith_K (h₀ := X.base) I.ok.mod.kin M.kp (thn (ha.run pos pins s σ H _ I h) fun us s1 ⟨vs, H1, I1, r, q⟩ => ⟨I1.kIn, ?_⟩) he hpl
  have hq := q (s1.heap.objs.size + 1) s1.heap.objs.size (I1.hok.fresh (Nat.le_succ _)) (I1.hok.fresh (Nat.le_refl _)) (Nat.ne_of_lt (Nat.lt_succ_self _))
  have I2 := Inv.made (C := C) I1
  have r2 : Vals (V.ref (s1.heap.objs.size + 1) :: vs) (Value.ref (s1.heap.objs.size + 1) :: us) := .cons rfl r
  have hl : (Value.ref (s1.heap.objs.size + 1) :: us).length = ps.length := by
    have e := r2.length
    rw [F.len _ _ _ _ hq] at e
    exact e.symm
  have hbb := hb _ (Value.ref (s1.heap.objs.size + 1) :: us) I2.kIn (by rw [List.append_nil]; exact hl)
  rw [List.append_nil] at hbb
  show wpAny _ _ (call (.ref C) us) _ _ _
  refine wpAny_call (make_map (f := f) I1.kIn M.makes M.init (beq_iff_eq.mp M.fn) (codeAny_mono (F.run _ X.stack _ _ ⟨Value.ref (s1.heap.objs.size + 1) :: us, []⟩ (Value.ref (s1.heap.objs.size + 1) :: us) _ _ (WE W σ) ((hr.mono hj).make C us [])
    (I2.env0.make C us []) hbb r2 hq) fun r s' hq' => ?_))
  cases r with
  | error e => exact passAt tk σ pins _ _ e s' I2 hq'
  | ok fl =>
    cases fl with
    | ret u =>
      obtain ⟨v, H', I3, rv, ev, q3⟩ := I2.after hq'
      subst ev
      exact ⟨rv, ⟨V.ref (s1.heap.objs.size + 1), H', I3, rfl, q3⟩⟩
    | next => exact False.elim hq'
    | brk => exact False.elim hq'
    | cont => exact False.elim hq'
/-- e.f, a property that is worked out -/
theorem pe_prK (c : Cls X.K C) (M : KeepsP X.prog X.w X.K X.mg X.base C k x sp) (hr : Room j X.A) (he : PE X e ta) (hj : k + 1 ≤ j := by decide) (hab : attributeBase e x X.env (eval e X.env) = eval e X.env := by rfl) :
    PE X (.Attribute e x pos) (tProp C sp [] E0 ta) := by
  obtain ⟨p, g, fd, P, F, b⟩ := M.ex
  exact pe_prop (dvs := []) (E := E0) (pos := pos) he c P F (hr.mono hj) b .nil (fun _ _ _ _ _ _ _ z => z.elim) hab
end
/-! ### own ==, != with any answer -/
structure EqK (P : Program) (w : World) (K : PySem.W.Frag) (mg : PySem.Str → Option Value) (base : Heap) (C : Addr) (k : Nat) (sp : Sp) : Prop where
  ex : ∃ f fd, PySem.W.findIn K (.ref C) "__eq__" = some (some (.ref f)) ∧ PySem.W.isFn K (.ref f) = true ∧ FnOk P w K mg base CX0 k f fd ["self", "other"] sp ∧ Binds K fd ["self", "other"] []
structure NeAt (K : PySem.W.Frag) (C : Addr) : Prop where
  ne : PySem.W.findIn K (.ref C) "__ne__" = some (some (.builtin "object.__ne__"))
  ob : PySem.W.subIn K (.ref C) (.type "object") = some true
theorem eqK_of {P : Program} {w : World} {K : PySem.W.Frag} {mg : PySem.Str → Option Value} {base : Heap} {C : Addr} {k : Nat} {sp : Sp} {qual : PySem.Str} {st : Stmt} {N : List PySem.Str} (D : EqAt K C qual st) (S : FnScope N ["self", "other"] (defScope st)) (len : ∀ vs H Q E, sp vs H Q E → vs.length = (["self", "other"] : List PySem.Str).length)
    (hbody : ∀ (f : Addr) (cdv : Value) (A : Around) (outer : List Env) (s : Shared) (H : Hp) (vs : List V) (Q : VK) (E : XK), Room k (A.deeper (envOfC qual (defScope st) s.heap.objs.size f cdv)) → sp vs H Q E →
      ∃ t, PSs (cxOf CX0 P w K mg base N qual (defScope st) f cdv A outer s H E).nox (defBody st) t ∧ t { nx := fun _ H' => Q .non H', rt := Q } (start N vs) H) : EqK P w K mg base C (k + 1) sp := by
  obtain ⟨f, fd, a, b, F, c⟩ := D.ex
  exact ⟨f, fd, a, b, F.ok S len (hbody f), c⟩
/-- x == y, x of the class at C: by C's own way; y of the class, too -/
def rOwn (C : Addr) (sp : Sp) (neg : Bool) : R2 := fun x y H Q => ∃ a b dx dy fs gs, x = .ref a ∧ y = .ref b ∧ H a = some (.ins C dx fs) ∧ H b = some (.ins C dy gs) ∧ sp [.ref a, .ref b] H (fun v H' => ∃ r : Bool, v = .bl r ∧ Q (.bl (r != neg)) H') E0
section
open PySem.W PySem.Calls
variable {prog : Program} {w : World} {A : Around} {E : Value → Shared → Prop} {s : Shared} {K : Frag} {x C f : Addr} {ox : Obj} {od : Option Obj} {b : Value}
theorem objNe_K (X : K.In s.heap) (I : InstAt s.heap x ox C od) (hs : findIn K (.ref C) "__eq__" = some (some (.ref f))) (hf : isFn K (.ref f) = true) (hu : A.units < cLine) {Q : Fin → Shared → Prop}
    (hcall : wpAny (model prog w) A (call (.ref f) [.ref x, b]) (fun v s' => ∃ r, v = .bool r ∧ Q (.done (.ret (.bool (!r)))) s') E s) :
    wpAny (model prog w) A (Builtin.«object.__ne__» ⟨[.ref x, b], []⟩) Q E s := by
  unfold Builtin.«object.__ne__»
  repeat (first
    | with_reducible refine wpAny_cRoomFor hu ?_
    | (refine wpAny_bind (m := callSpecialIfBound? (.ref x) (Str.ofString "__eq__") [b])
        (ifBound_K X I hs hf (wpAny_mono hcall (fun r s' hr => by
          obtain ⟨b, rfl, hq⟩ := hr
          repeat (first | exact hq | exact wpAny_pure hq | exact wpAny_truthy_bool hq | (refine wpAny_bind (m := truthy (.bool _)) (wpAny_truthy_bool ?_)) | wp_step)) fun _ _ e => e)))
    | wp_step)
theorem richNe_K {tb : Value} (X : K.In s.heap) (I : InstAt s.heap x ox C od) (hb : Looks (model prog w) s.heap (typeOf b) tb) (hn : notFirst K C tb = true) (N : NeAt K C) (hs : findIn K (.ref C) "__eq__" = some (some (.ref f))) (hf : isFn K (.ref f) = true) (hu : A.units + 1 < cLine) {Q : Value → Shared → Prop}
    (hcall : wpAny (model prog w) A.in1 (call (.ref f) [.ref x, b]) (fun v s' => ∃ r, v = .bool r ∧ Q (.bool (!r)) s') E s) :
    wpAny (model prog w) A (richCompare .NotEq (.ref x) b) Q E s := by
  have sub : Looks (model prog w) s.heap (isInstance (.ref x) (.type "object")) true := I.type.andThen (looks_subIn X N.ob)
  have one : wpAny (model prog w) A (tryCompare (.ref x) (cmpInfo .NotEq).2.1 b) (fun r s' => ∃ v, r = some v ∧ Q v s') E s := by
    unfold tryCompare
    rw [cmpInfo_NotEq]
    refine wpAny_bind ?_
    simp only [callSpecialIfBound?, bindSpecialIfBound?]
    refine wpAny_holding (wpAny_bind (wpAny_bind (wpAny_bind (I.type.here ((looks_findIn X N.ne).here ?_)))))
    have fin : ∀ {Z : Option Value → Shared → Prop}, (∀ (r : Bool) s', Q (.bool (!r)) s' → Z (some (.bool (!r))) s') → wpAny (model prog w) A (call (.builtin "object.__ne__") ([.ref x] ++ [b]) >>= fun v => pure (some v)) Z E s := fun {Z} hz => by
      refine wpAny_bind (wpAny_call (codeAny_call_builtin F.cmp_object.ne.plain F.cmpEntry_ne (@check_slot (model prog w) _ _ s "object.__ne__" "object" "__ne__" (.ref x) [b] [] _ F.cmpKind_ne F.cmpSplit_ne sub (F.cmpArgs_ne _ _)
        (objNe_K (A := A.in1) X I hs hf hu (wpAny_mono hcall (fun v s' hv => ?_) fun _ _ e => e)))))
      obtain ⟨r, rfl, hq⟩ := hv
      exact ⟨r, rfl, by first | exact wpAny_pure (hz r _ hq) | exact hz r _ hq⟩
    simp only [F.cmp_object.ne.bind]
    refine wpAny_bind (wpAny_askSetting (wpAny_ite ?_))
    split
    · exact wpAny_bind (wpAny_pure (wpAny_pure (fin fun r s' hq => wpAny_pure ⟨_, rfl, hq⟩)))
    · exact wpAny_tryCatch (wpAny_bind (wpAny_pure (wpAny_pure (fin fun r s' hq => wpAny_pure ⟨_, rfl, hq⟩))))
  unfold richCompare
  simp only [oneThing_ref]
  refine wpAny_holding (wpAny_bind (wpAny_cRoomFor (Nat.lt_of_succ_lt hu) ?_))
  refine wpAny_bind (I.type.here (wpAny_bind (hb.here ?_)))
  split
  · rename_i q
    have e : subIn K tb (.ref C) = some false := by
      rcases Bool.or_eq_true_iff.mp hn with e | e
      · rw [beq_iff_eq.mp e] at q; simp at q
      · exact beq_iff_eq.mp e
    refine wpAny_bind ((looks_subIn X e).here ?_)
    simp only [Bool.false_eq_true, if_false]
    refine wpAny_bind (wpAny_mono one (fun r s' z => ?_) fun _ _ e => e)
    obtain ⟨v, rfl, hq⟩ := z
    exact wpAny_pure hq
  · refine wpAny_bind (wpAny_pure ?_)
    simp only [Bool.false_eq_true, if_false]
    refine wpAny_bind (wpAny_mono one (fun r s' z => ?_) fun _ _ e => e)
    obtain ⟨v, rfl, hq⟩ := z
    exact wpAny_pure hq
end
section
variable {X : Cx} {C : Addr} {k j : Nat} {sp : Sp}
theorem run_eqK {A : Around} {pins : List (Addr × Obj)} {s : Shared} {σ : L2.St} {H : Hp} {a b : Addr} {f : Addr} {fd : FuncData} {Q : Bool → Hp → Prop} (sb : Sub X k A) (I : Inv X pins σ H s)
    (F : FnOk X.prog X.w X.K X.mg X.base CX0 k f fd ["self", "other"] sp) (hb : Binds X.K fd ["self", "other"] []) (hsp : sp [.ref a, .ref b] H (fun v H' => ∃ r : Bool, v = .bl r ∧ Q r H') E0) :
    wpAny (model X.prog X.w) A (call (.ref f) [.ref a, .ref b]) (fun v s' => ∃ r : Bool, v = .bool r ∧ ∃ H', Inv X pins σ H' s' ∧ Q r H') X.xe s := by
  have e0 : Env0 X.prog X.w X.K X.mg X.base A X.stack s H := by
    have e := I.env0
    exact ⟨by rw [sb.fr]; exact e.frames, e.mod, e.bs, e.bsz, e.funs, e.frf, e.hok, e.bare⟩
  have r2 : Vals [V.ref a, V.ref b] [Value.ref a, Value.ref b] := .cons rfl (.cons rfl .nil)
  refine wpAny_call (codeAny_mono (F.run A X.stack s H ⟨[.ref a, .ref b], []⟩ [.ref a, .ref b] [.ref a, .ref b] _ E0 sb.room e0 (by
    have := hb s [.ref a, .ref b] I.kIn (by simp)
    simpa using this) r2 hsp) fun r s' hq => ?_)
  cases r with
  | error e => exact hq.elim
  | ok fl =>
    cases fl with
    | ret w =>
      obtain ⟨z, H', I', rz, r, ez, q⟩ := I.after hq
      subst ez
      cases rz
      exact ⟨r, rfl, H', I', q⟩
    | next => exact False.elim hq
    | brk => exact False.elim hq
    | cont => exact False.elim hq
theorem keqB (M : EqK X.prog X.w X.K X.mg X.base C k sp) (hr : Room j X.A) (hj : k ≤ j := by decide) : OpR X (compareOp .Eq) (rOwn C sp false) := by
  intro pins s σ H x y v u Q I rx ry hq
  obtain ⟨a, b, dx, dy, fs, gs, rfl, rfl, ha, hb', hsp⟩ := hq
  obtain ⟨f, fd, h1, h2, F, hb⟩ := M.ex
  cases rx
  cases ry
  obtain ⟨mA, J, _⟩ := ins_get I.hok ha
  obtain ⟨mB, J', _⟩ := ins_get I.hok hb'
  obtain ⟨od, J, _⟩ := J.look
  obtain ⟨od', J', _⟩ := J'.look
  obtain ⟨m, hF⟩ := I.fr
  have sb : Sub X k X.A := ⟨hr.mono hj, rfl⟩
  show wpAny (model X.prog X.w) X.A (richCompare .Eq (.ref a) (.ref b)) (EP X pins σ Q) X.xe s
  refine PySem.W.cmp_K (op := .Eq) (tb := .ref C) sb.room.units0 hF I.ok.mod.kin J J'.type (by simp [PySem.W.notFirst]) h1 h2 (wpAny_mono (run_eqK sb I F hb (Q := fun r H' => Q (.bl (r != false)) H') hsp) (fun w s' z => ?_) fun _ _ x => x)
  obtain ⟨r, rfl, H', I', q⟩ := z
  refine ⟨.bl r, H', I', rfl, ?_⟩
  have e : (r != false) = r := by cases r <;> rfl
  rw [e] at q
  exact q
theorem kneB (M : EqK X.prog X.w X.K X.mg X.base C k sp) (N : NeAt X.K C) (hr : Room j X.A) (hj : k + 1 ≤ j := by decide) : OpR X (compareOp .NotEq) (rOwn C sp true) := by
  intro pins s σ H x y v u Q I rx ry hq
  obtain ⟨a, b, dx, dy, fs, gs, rfl, rfl, ha, hb', hsp⟩ := hq
  obtain ⟨f, fd, h1, h2, F, hb⟩ := M.ex
  cases rx
  cases ry
  obtain ⟨mA, J, _⟩ := ins_get I.hok ha
  obtain ⟨mB, J', _⟩ := ins_get I.hok hb'
  obtain ⟨od, J, _⟩ := J.look
  obtain ⟨od', J', _⟩ := J'.look
  have sb1 : Sub X (k + 1) X.A := ⟨hr.mono hj, rfl⟩
  have sb : Sub X k X.A.in1 := sb1.in1
  show wpAny (model X.prog X.w) X.A (richCompare .NotEq (.ref a) (.ref b)) (EP X pins σ Q) X.xe s
  refine richNe_K (tb := .ref C) I.kIn J J'.type (by simp [PySem.W.notFirst]) N h1 h2 sb.room.units0 (wpAny_mono (run_eqK sb I F hb (Q := fun r H' => Q (.bl (r != true)) H') hsp) (fun w s' z => ?_) fun _ _ x => x)
  obtain ⟨r, rfl, H', I', q⟩ := z
  refine ⟨r, rfl, .bl (!r), H', I', rfl, ?_⟩
  have e : (r != true) = !r := by cases r <;> rfl
  rw [e] at q
  exact q
end
end Bz

namespace Bz
open PySem PySem.Spec PyProof.Rows L2
/-! ### list(zip(*rows)): rows are tuples of one length -/
/-- zip over n tuples: its iterators from B on, then the two tuples that it holds, then itself -/
structure ZSt (h : Heap) (B n : Nat) (ls : List Addr) (i : Nat) (f0 f1 : Value) : Prop where
  z : h.get? (B + n + 2) = some { cls := .type "zip", data := .fields #[f0, f1, .bool false, .ref (B + n), .ref (B + n + 1)] }
  ti : h.get? (B + n) = some { cls := .type "tuple", data := .seq ((List.range n).map fun j => Value.ref (B + j)).toArray }
  to : ∃ olds : List Value, olds.length = n ∧ h.get? (B + n + 1) = some { cls := .type "tuple", data := .seq olds.toArray }
  its : ∀ j l, ls[j]? = some l → h.IsTupleIter (B + j) l i
/-- the rows: tuples below B, of m values each -/
def ZRw (h : Heap) (B m : Nat) (ls : List Addr) (vs : Nat → List Value) : Prop := ∀ j l, ls[j]? = some l → l < B ∧ (vs j).length = m ∧ h.IsTuple l (vs j).toArray
theorem ZRw.keep {h h' : Heap} {B m : Nat} {ls : List Addr} {vs : Nat → List Value} (r : ZRw h B m ls vs) (k : ∀ b o, b < B → h.get? b = some o → h'.get? b = some o) : ZRw h' B m ls vs := fun j l e => by
  obtain ⟨a, b, c⟩ := r j l e
  exact ⟨a, b, c.at fun o q => k l o a q⟩
def zcol (vs : Nat → List Value) (n i : Nat) : List Value := (List.range n).map fun j => (vs j).getD i .none
section
variable {prog : Program} {w : World} {A : Around} {E : Value → Shared → Prop} {s : Shared} {B n m i : Nat} {ls : List Addr} {vs : Nat → List Value}
theorem iters_new {Q : List Value → Shared → Prop} (hl : ∀ l ∈ ls, ∃ its, s.heap.IsTuple l its)
    (hQ : ∀ h', (∀ b o, s.heap.get? b = some o → h'.get? b = some o) → h'.objs.size = s.heap.objs.size + ls.length → (∀ j l, ls[j]? = some l → h'.IsTupleIter (s.heap.objs.size + j) l 0) →
      Q ((List.range ls.length).map fun j => Value.ref (s.heap.objs.size + j)) { s with heap := h' }) :
    wpAny (model prog w) A (Builtin.SmallTypes.iterAll (ls.map Value.ref)) Q E s := by
  obtain ⟨hp, g, d, tk, os⟩ := s
  dsimp only at hl hQ
  unfold Builtin.SmallTypes.iterAll
  refine wpAny_bind (wpAny_forIn_list _ (fun rest b s' => ∃ k h', s' = ⟨h', g, d, tk, os⟩ ∧ rest = (ls.map Value.ref).drop k ∧ k ≤ ls.length ∧ b = ((List.range k).map fun j => Value.ref (hp.objs.size + j)).toArray ∧
    (∀ b o, hp.get? b = some o → h'.get? b = some o) ∧ h'.objs.size = hp.objs.size + k ∧ ∀ j l, j < k → ls[j]? = some l → h'.IsTupleIter (hp.objs.size + j) l 0) _ ?_ ?_ _ _ ⟨0, hp, rfl, rfl, Nat.zero_le _, rfl, fun _ _ e => e, rfl, fun j l h => absurd h (by omega)⟩)
  · rintro x rest b s' ⟨k, h', rfl, hr, hk, rfl, kp, hz, hi⟩
    have hlt : k < ls.length := by
      rcases Nat.lt_or_ge k ls.length with h | h
      · exact h
      · rw [List.drop_of_length_le (by rw [List.length_map]; exact h)] at hr
        cases hr
    have e1 : ls[k]? = some ls[k] := List.getElem?_eq_getElem hlt
    have hd : (ls.map Value.ref).drop k = Value.ref ls[k] :: (ls.map Value.ref).drop (k + 1) := by
      rw [List.drop_eq_getElem_cons (by rw [List.length_map]; exact hlt), List.getElem_map]
    rw [hd] at hr
    injection hr with hx hrest
    subst hx
    obtain ⟨its, ht⟩ := hl _ (List.getElem_mem hlt)
    refine wpAny_bind (wpAny_holding (wpAny_pyIter_tuple (ht.at fun o e => kp _ _ e) ?_))
    refine wpAny_pure ⟨k + 1, _, rfl, hrest, hlt, ?_, fun b o e => Heap.get?_push_of_some _ (kp b o e), by rw [Heap.size_push, hz]; omega, fun j l hj e => ?_⟩
    · rw [List.range_succ, List.map_append]
      simp [hz]
    · by_cases hjk : j < k
      · exact (hi j l hjk e).at fun o q => Heap.get?_push_of_some _ q
      · have ej : j = k := by omega
        subst ej
        rw [e1] at e
        rw [← Option.some.inj e]
        have := Heap.get?_push_size h' (o := { cls := .type "tuple_iterator", data := .fields #[.ref ls[j], .int 0 0] }) rfl
        rw [hz] at this
        exact ⟨_, this, rfl, rfl⟩
  · rintro b s' ⟨k, h', rfl, hr, hk, rfl, kp, hz, hi⟩
    have hkl : k = ls.length := by
      rcases Nat.lt_or_ge k ls.length with h | h
      · have q := congrArg List.length hr
        rw [List.length_drop, List.length_map] at q
        simp at q
        omega
      · omega
    subst hkl
    refine wpAny_pure ?_
    simp only [List.toList_toArray]
    exact hQ h' kp hz fun j l e => hi j l (List.getElem?_eq_some_iff.mp e).1 e
theorem typeCall_zip_n : ∀ us : List Value, us.length ≤ 8 → checkTypeCall "zip" ⟨us, []⟩ = pure ()
  | [], _ => by kernel_rfl
  | [_], _ => by kernel_rfl
  | [_, _], _ => by kernel_rfl
  | [_, _, _], _ => by kernel_rfl
  | [_, _, _, _], _ => by kernel_rfl
  | [_, _, _, _, _], _ => by kernel_rfl
  | [_, _, _, _, _, _], _ => by kernel_rfl
  | [_, _, _, _, _, _, _], _ => by kernel_rfl
  | [_, _, _, _, _, _, _, _], _ => by kernel_rfl
  | _ :: _ :: _ :: _ :: _ :: _ :: _ :: _ :: _ :: _, h => absurd h (by simp)
theorem newCall_zip_n : ∀ us : List Value, us.length ≤ 8 → checkBuiltinCall "zip.__new__" ⟨.type "zip" :: us, []⟩ = pure ()
  | [], _ => by kernel_rfl
  | [_], _ => by kernel_rfl
  | [_, _], _ => by kernel_rfl
  | [_, _, _], _ => by kernel_rfl
  | [_, _, _, _], _ => by kernel_rfl
  | [_, _, _, _, _], _ => by kernel_rfl
  | [_, _, _, _, _, _], _ => by kernel_rfl
  | [_, _, _, _, _, _, _], _ => by kernel_rfl
  | [_, _, _, _, _, _, _, _], _ => by kernel_rfl
  | _ :: _ :: _ :: _ :: _ :: _ :: _ :: _ :: _ :: _, h => absurd h (by simp)
theorem init_zip_n (ob : Value) : ∀ us : List Value, us.length ≤ 8 → argsOk "object.__init__" ⟨ob :: us, []⟩
  | [], _ => by unfold argsOk; kernel_rfl
  | [_], _ => by unfold argsOk; kernel_rfl
  | [_, _], _ => by unfold argsOk; kernel_rfl
  | [_, _, _], _ => by unfold argsOk; kernel_rfl
  | [_, _, _, _], _ => by unfold argsOk; kernel_rfl
  | [_, _, _, _, _], _ => by unfold argsOk; kernel_rfl
  | [_, _, _, _, _, _], _ => by unfold argsOk; kernel_rfl
  | [_, _, _, _, _, _, _], _ => by unfold argsOk; kernel_rfl
  | [_, _, _, _, _, _, _, _], _ => by unfold argsOk; kernel_rfl
  | _ :: _ :: _ :: _ :: _ :: _ :: _ :: _ :: _ :: _, h => absurd h (by simp)
theorem meets_zip_n (ls : List Addr) (hz8 : ls.length ≤ 8) : Meets (Builtin.«zip.__new__» ⟨.type "zip" :: ls.map Value.ref, []⟩) (fun _ R s => (∀ l ∈ ls, ∃ its, s.heap.IsTuple l its) ∧
    ∀ h', (∀ b o, s.heap.get? b = some o → h'.get? b = some o) → h'.objs.size = s.heap.objs.size + ls.length + 3 → ZSt h' s.heap.objs.size ls.length ls 0 .none (.bool false) → R (.ok (.ret (.ref (s.heap.objs.size + ls.length + 2)))) { s with heap := h' }) :=
  .of_wp fun prog w A R s h => by
    obtain ⟨hp, g, d, tk, os⟩ := s; obtain ⟨hl, h⟩ := h
    dsimp only at hl h
    have hsub := sub_zip
    have nc : wpAny (model prog w) A.in1 (Builtin.SmallTypes.newClass "zip" ⟨.type "zip" :: ls.map Value.ref, []⟩) (fun r s' => r = (.type "zip", ls.map Value.ref) ∧ s' = ⟨hp, g, d, tk, os⟩) (fun e s' => R (.error e) s') ⟨hp, g, d, tk, os⟩ := by
      unfold Builtin.SmallTypes.newClass
      wp_walk
      exact ⟨rfl, rfl⟩
    unfold Builtin.«zip.__new__»
    refine wpAny_bind (wpAny_mono nc (fun r s' hr => ?_) fun _ _ x => x)
    obtain ⟨rfl, rfl⟩ := hr
    dsimp only
    have it := iters_new (prog := prog) (w := w) (A := A.in1) (E := fun e s' => R (.error e) s') (s := ⟨hp, g, d, tk, os⟩) (ls := ls) (Q := fun us s' => ∃ h', us = ((List.range ls.length).map fun j => Value.ref (hp.objs.size + j)) ∧ s' = ⟨h', g, d, tk, os⟩ ∧ (∀ b o, hp.get? b = some o → h'.get? b = some o) ∧ h'.objs.size = hp.objs.size + ls.length ∧ ∀ j l, ls[j]? = some l → h'.IsTupleIter (hp.objs.size + j) l 0)
      hl fun h' a b c => ⟨h', rfl, rfl, a, b, c⟩
    rw [if_neg (by simp)]
    first
      | refine wpAny_bind (wpAny_mono it (fun us s' hr => ?_) fun _ _ x => x)
      | (refine wpAny_bind (wpAny_pure ?_); refine wpAny_bind (wpAny_mono it (fun us s' hr => ?_) fun _ _ x => x))
    obtain ⟨h', rfl, rfl, kp, hz, hi⟩ := hr
    have sz8 : ls.length ≤ sizeLine := Evl.sz_of (by omega)
    refine wpAny_bind (wpAny_newTuple (hsz := by simpa using sz8) ?_)
    refine wpAny_bind (wpAny_newTuple (hsz := by simpa using sz8) ?_)
    unfold Builtin.SmallTypes.newRecord
    dsimp only
    refine wpAny_bind (wpAny_newObj_type (hd := by show (5 : Nat) ≤ sizeLine + 2; exact Nat.le_of_ble_eq_true rfl) ?_)
    refine wpAny_pure ⟨_, rfl, ?_⟩
    generalize ho1 : ({ cls := .type "tuple", data := .seq ((List.range ls.length).map fun j => Value.ref (hp.objs.size + j)).toArray } : Obj) = o1
    generalize ho2 : ({ cls := .type "tuple", data := .seq (((List.range ls.length).map fun j => Value.ref (hp.objs.size + j)).map fun _ => Value.none).toArray } : Obj) = o2
    have z1 : (h'.push o1).objs.size = hp.objs.size + ls.length + 1 := by rw [Heap.size_push, hz]
    have z2 : ((h'.push o1).push o2).objs.size = hp.objs.size + ls.length + 2 := by rw [Heap.size_push, z1]
    have f1 : o1.slots = #[] := by rw [← ho1]
    have f2 : o2.slots = #[] := by rw [← ho2]
    have g1 := Heap.get?_push_size h' (o := o1) (by rw [← ho1] <;> rfl)
    have g2 := Heap.get?_push_size (h'.push o1) (o := o2) (by rw [← ho2] <;> rfl)
    dsimp only
    rw [z2]
    rw [hz] at g1
    rw [z1] at g2
    have e5 : (Builtin.SmallTypes.ownedTupleFields ++ [Value.bool false, .ref h'.objs.size, .ref (h'.push o1).objs.size]).toArray = #[.none, .bool false, .bool false, .ref (hp.objs.size + ls.length), .ref (hp.objs.size + ls.length + 1)] := by rw [hz, z1]; rfl
    rw [e5]
    have g3 := Heap.get?_push_size ((h'.push o1).push o2) (o := { cls := .type "zip", data := .fields #[.none, .bool false, .bool false, .ref (hp.objs.size + ls.length), .ref (hp.objs.size + ls.length + 1)] }) rfl
    rw [z2] at g3
    have up : ∀ b o, h'.get? b = some o → (((h'.push o1).push o2).push { cls := .type "zip", data := .fields #[.none, .bool false, .bool false, .ref (hp.objs.size + ls.length), .ref (hp.objs.size + ls.length + 1)] }).get? b = some o := fun b o e =>
      Heap.get?_push_of_some _ (Heap.get?_push_of_some _ (Heap.get?_push_of_some _ e))
    refine h _ (fun b o e => up b o (kp b o e)) (by rw [Heap.size_push, z2]) ⟨g3, ?_, ⟨((List.range ls.length).map fun j => Value.ref (hp.objs.size + j)).map fun _ => Value.none, ?_, ?_⟩, fun j l e => (hi j l e).at fun o q => up _ _ q⟩
    · rw [ho1]
      exact Heap.get?_push_of_some _ (Heap.get?_push_of_some _ g1)
    · simp
    · rw [ho2]
      exact Heap.get?_push_of_some _ g2
theorem ane {a b : Nat} (h : a < b ∨ b < a) : a ≠ b := by omega
theorem drop_its {B n k : Nat} (h : k < n) : ((List.range n).map fun j => Value.ref (B + j)).drop k = Value.ref (B + k) :: ((List.range n).map fun j => Value.ref (B + j)).drop (k + 1) := by
  rw [List.drop_eq_getElem_cons (by simpa using h)]
  simp
theorem zcol_get {vs : Nat → List Value} {n i j : Nat} (h : j < n) : (zcol vs n i)[j]? = some ((vs j).getD i .none) := by
  unfold zcol
  rw [List.getElem?_map, List.getElem?_range h]
  rfl
theorem row_get {xs : List Value} {i m : Nat} (h : xs.length = m) (hi : i < m) : xs.toArray[i]? = some (xs.getD i .none) := by
  rw [List.getElem?_toArray, List.getD_eq_getElem?_getD, List.getElem?_eq_getElem (by omega)]
  rfl
/-- next, the tuple handed out before still in use -/
theorem zip_next_out {Q : Value → Shared → Prop} {a : Addr} {f : Bool} {oa : Obj} (hh : A.handled = none) (n0 : 0 < ls.length) (n8 : ls.length ≤ 8) (st : ZSt s.heap B ls.length ls i (rawInt a) (.bool f)) (ha : s.heap.get? a = some oa) (hab : a ≠ B + ls.length + 2) (hai : ∀ j, j < ls.length → a ≠ B + j) (rw' : ZRw s.heap B m ls vs) (hi : i < m)
    (hQ : ∀ h' tk, ZSt h' B ls.length ls (i + 1) (rawInt a) (.bool true) → h'.get? s.heap.objs.size = some { cls := .type "tuple", data := .seq (zcol vs ls.length i).toArray } → h'.objs.size = s.heap.objs.size + 1 →
      (∀ c o, (∀ j, j < ls.length → c ≠ B + j) → c ≠ B + ls.length + 2 → s.heap.get? c = some o → h'.get? c = some o) → Q (.ref s.heap.objs.size) { s with heap := h', toks := tk }) :
    wpAny (model prog w) A (Builtin.«zip.__next__» ⟨[.ref (B + ls.length + 2)], []⟩) (fun fin s' => ∃ v, fin = .done (.ret v) ∧ Q v s') E s := by
  obtain ⟨hp, g, d, tk, os⟩ := s
  dsimp only at st ha rw' hQ
  have hzl : B + ls.length + 2 < hp.objs.size := Heap.lt_size st.z
  show wpAny _ _ (field (.ref (B + ls.length + 2)) 2 >>= _) _ _ _
  refine wpAny_bind (wpAny_field st.z rfl (x := .bool false) rfl ?_)
  show wpAny _ _ (field (.ref (B + ls.length + 2)) 3 >>= _) _ _ _
  refine wpAny_bind (wpAny_field st.z rfl (x := .ref (B + ls.length)) rfl ?_)
  refine wpAny_bind (wpAny_seqItems st.ti rfl ?_)
  dsimp only
  have nem : ¬ ((List.map (fun j => Value.ref (B + j)) (List.range ls.length)).toArray.isEmpty = true) := fun q => by
    simp only [List.isEmpty_toArray, List.isEmpty_iff] at q
    have := congrArg List.length q
    rw [List.length_map, List.length_range] at this
    simp at this
    rw [this] at n0
    simp at n0
  rw [if_neg nem]
  have free : wpAny (model prog w) A (Builtin.SmallTypes.ownedTupleIsFree (.ref (B + ls.length + 2))) (fun r s' => r = false ∧ ∃ hp1 : Heap, s' = ⟨hp1, g, d, tk, os⟩ ∧ hp1.objs.size = hp.objs.size ∧ ZSt hp1 B ls.length ls i (rawInt a) (.bool true) ∧ (∀ c o, c ≠ B + ls.length + 2 → hp.get? c = some o → hp1.get? c = some o)) E ⟨hp, g, d, tk, os⟩ := by
    unfold Builtin.SmallTypes.ownedTupleIsFree
    refine wpAny_bind (wpAny_field st.z rfl (x := rawInt a) rfl ?_)
    show wpAny _ _ (loadIfAlive ((a : Int).toNat) >>= _) _ _ _
    rw [Int.toNat_natCast]
    refine wpAny_bind (PySem.W.kdx_alive ha ?_)
    simp only [Option.isNone_some, Bool.false_eq_true, if_false]
    refine wpAny_bind (wpAny_field st.z rfl (x := .bool f) rfl ?_)
    cases f with
    | true =>
      rw [if_neg (show ¬ ((Value.bool true != Value.bool true) = true) from Bool.false_ne_true)]
      exact wpAny_pure ⟨rfl, hp, rfl, rfl, st, fun _ _ _ e => e⟩
    | false =>
      rw [if_pos (show (Value.bool false != Value.bool true) = true from rfl)]
      refine wpAny_bind (wpAny_setField_rec st.z (by simp) fun h₃ he₃ hs₃ => ?_)
      replace hs₃ : Heap.SameBut (B + ls.length + 2) hp h₃ := hs₃
      replace he₃ : h₃.get? (B + ls.length + 2) = some { cls := .type "zip", data := .fields #[rawInt a, .bool true, .bool false, .ref (B + ls.length), .ref (B + ls.length + 1)] } := he₃
      obtain ⟨olds, ho, hto⟩ := st.to
      exact wpAny_pure ⟨rfl, h₃, rfl, hs₃.1, ⟨he₃, hs₃.extBut _ _ (ane (by omega)) st.ti, ⟨olds, ho, hs₃.extBut _ _ (ane (by omega)) hto⟩, fun j l e => (st.its j l e).at fun o q => hs₃.extBut _ _ (ane (by have := (List.getElem?_eq_some_iff.mp e).1; omega)) q⟩, fun c o hc e => hs₃.extBut c o hc e⟩
  refine wpAny_bind (wpAny_mono free (fun r s' hr => ?_) fun _ _ x => x)
  obtain ⟨rfl, hp1, rfl, hz1, st1, kp1⟩ := hr
  simp only [Bool.false_eq_true, if_false]
  have rw1 : ZRw hp1 B m ls vs := rw'.keep fun b o hb e => kp1 b o (ane (by omega)) e
  refine wpAny_bind (wpAny_forIn_array' _ (fun rest b s' => ∃ k h' tk', s' = ⟨h', g, d, tk', os⟩ ∧ rest = ((List.range ls.length).map fun j => Value.ref (B + j)).drop k ∧ k ≤ ls.length ∧ b = ⟨none, ((List.range k).map fun j => (vs j).getD i .none).toArray⟩ ∧
    h'.objs.size = hp1.objs.size ∧ (∀ c o, (∀ j, j < k → c ≠ B + j) → hp1.get? c = some o → h'.get? c = some o) ∧ ∀ j l, j < k → ls[j]? = some l → h'.IsTupleIter (B + j) l (i + 1)) _ ?_ ?_ _ _ ⟨0, hp1, tk, rfl, rfl, Nat.zero_le _, rfl, rfl, fun _ _ _ e => e, fun j l h => absurd h (by omega)⟩)
  · rintro x rest b s' ⟨k, h', tk', rfl, hr, hk, rfl, hz, kp, hd⟩
    have hlt : k < ls.length := by
      rcases Nat.lt_or_ge k ls.length with h | h
      · exact h
      · rw [List.drop_of_length_le (by simpa using h)] at hr
        cases hr
    rw [drop_its hlt] at hr
    injection hr with hx hrest
    subst hx
    obtain ⟨lB, lm, lt⟩ := rw1 k _ (List.getElem?_eq_getElem hlt)
    have DT := Draws.tuple (prog := prog) (w := w) (A := A) hh (B + k) ls[k] (ane (by omega)) (vs k).toArray
    have S0 : h'.IsTupleIter (B + k) ls[k] i ∧ h'.IsTuple ls[k] (vs k).toArray := ⟨(st1.its k _ (List.getElem?_eq_getElem hlt)).at fun o e => kp _ _ (fun j hj => ane (by omega)) e, lt.at fun o e => kp _ _ (fun j hj => ane (by omega)) e⟩
    refine wpAny_bind (wpAny_holding ?_)
    show wpAny _ _ (Builtin.SmallTypes.nextOf (.ref (B + k)) >>= _) _ _ _
    refine wpAny_bind (DT.item i _ _ _ (by rw [List.size_toArray, lm]; exact hi) S0 fun x p1 tk1 hx1 sn1 hp1' => ?_)
    replace hp1' : Heap.SameBut (B + k) h' p1 := hp1'
    have ex : x = (vs k).getD i .none := by
      rw [row_get lm hi] at hx1
      exact (Option.some.inj hx1).symm
    refine wpAny_pure (wpAny_pure ⟨k + 1, p1, tk1, rfl, hrest, hlt, ?_, hp1'.1.trans hz, fun c o hc e => hp1'.extBut c o (hc k (Nat.lt_succ_self k)) (kp c o (fun j hj => hc j (Nat.lt_succ_of_lt hj)) e), fun j l hj e => ?_⟩)
    · rw [List.range_succ, List.map_append, ex]
      simp
    · by_cases hjk : j < k
      · exact (hd j l hjk e).at fun o q => hp1'.extBut _ _ (ane (by omega)) q
      · have ej : j = k := by omega
        subst ej
        rw [List.getElem?_eq_getElem hlt] at e
        rw [← Option.some.inj e]
        exact sn1.1
  · rintro b s' ⟨k, h', tk', rfl, hr, hk, rfl, hz, kp, hd⟩
    have hkl : k = ls.length := by
      rcases Nat.lt_or_ge k ls.length with h | h
      · rw [drop_its h] at hr
        cases hr
      · omega
    subst hkl
    dsimp only
    refine wpAny_bind (wpAny_newTuple (hsz := by rw [List.length_map, List.length_range]; exact Evl.sz_of (by omega)) ?_)
    · refine wpAny_pure ?_
      refine ⟨_, rfl, ?_⟩
      dsimp only
      rw [hz, hz1]
      have nz : (h'.push { cls := .type "tuple", data := .seq ((List.range ls.length).map fun j => (vs j).getD i .none).toArray }).objs.size = hp.objs.size + 1 := by rw [Heap.size_push, hz, hz1]
      have ng := Heap.get?_push_size h' (o := { cls := .type "tuple", data := .seq ((List.range ls.length).map fun j => (vs j).getD i .none).toArray }) rfl
      rw [hz, hz1] at ng
      have up : ∀ c o, h'.get? c = some o → (h'.push { cls := .type "tuple", data := .seq ((List.range ls.length).map fun j => (vs j).getD i .none).toArray }).get? c = some o := fun c o e => Heap.get?_push_of_some _ e
      obtain ⟨olds, ho, hto⟩ := st1.to
      refine hQ _ tk' ⟨up _ _ (kp _ _ (fun j hj => ane (by omega)) st1.z), up _ _ (kp _ _ (fun j hj => ane (by omega)) st1.ti), ⟨olds, ho, up _ _ (kp _ _ (fun j hj => ane (by omega)) hto)⟩, fun j l e => (hd j l (List.getElem?_eq_some_iff.mp e).1 e).at fun o q => up _ _ q⟩ ng nz fun c o hc1 hc2 e => up _ _ (kp c o hc1 (kp1 c o hc2 e))
theorem setIf_col {xs : List Value} {k n : Nat} {x : Value} (_h : xs.length = n) : (xs.toArray.setIfInBounds k x) = (xs.set k x).toArray := by
  simp
/-- the first next: the tuple that it holds is filled -/
theorem zip_next_first {Q : Value → Shared → Prop} (hh : A.handled = none) (n0 : 0 < ls.length) (n8 : ls.length ≤ 8) (st : ZSt s.heap B ls.length ls i .none (.bool false)) (rw' : ZRw s.heap B m ls vs) (hi : i < m)
    (hQ : ∀ h' tk, ZSt h' B ls.length ls (i + 1) (rawInt s.heap.objs.size) (.bool false) → h'.get? s.heap.objs.size = some { cls := .type "tuple", data := .seq (zcol vs ls.length i).toArray } → h'.objs.size = s.heap.objs.size + 1 →
      (∀ c o, (∀ j, j < ls.length → c ≠ B + j) → c ≠ B + ls.length + 1 → c ≠ B + ls.length + 2 → s.heap.get? c = some o → h'.get? c = some o) → Q (.ref s.heap.objs.size) { s with heap := h', toks := tk }) :
    wpAny (model prog w) A (Builtin.«zip.__next__» ⟨[.ref (B + ls.length + 2)], []⟩) (fun fin s' => ∃ v, fin = .done (.ret v) ∧ Q v s') E s := by
  obtain ⟨hp, g, d, tk, os⟩ := s
  dsimp only at st rw' hQ
  have hzl : B + ls.length + 2 < hp.objs.size := Heap.lt_size st.z
  show wpAny _ _ (field (.ref (B + ls.length + 2)) 2 >>= _) _ _ _
  refine wpAny_bind (wpAny_field st.z rfl (x := .bool false) rfl ?_)
  show wpAny _ _ (field (.ref (B + ls.length + 2)) 3 >>= _) _ _ _
  refine wpAny_bind (wpAny_field st.z rfl (x := .ref (B + ls.length)) rfl ?_)
  refine wpAny_bind (wpAny_seqItems st.ti rfl ?_)
  dsimp only
  have nem : ¬ ((List.map (fun j => Value.ref (B + j)) (List.range ls.length)).toArray.isEmpty = true) := fun q => by
    simp only [List.isEmpty_toArray, List.isEmpty_iff] at q
    have := congrArg List.length q
    rw [List.length_map, List.length_range] at this
    simp at this
    rw [this] at n0
    simp at n0
  rw [if_neg nem]
  refine wpAny_bind ?_
  unfold Builtin.SmallTypes.ownedTupleIsFree
  refine wpAny_bind (wpAny_field st.z rfl (x := .none) rfl (wpAny_pure ?_))
  simp only [if_true]
  refine wpAny_bind (wpAny_rule ?_)
  refine wpAny_bind (wpAny_field st.z rfl (x := .ref (B + ls.length + 1)) rfl ?_)
  refine wpAny_bind (wpAny_setField_rec st.z (by simp) fun g0 hz0 hs0 => ?_)
  replace hz0 : g0.get? (B + ls.length + 2) = some { cls := .type "zip", data := .fields #[.ellipsis, .bool false, .bool false, .ref (B + ls.length), .ref (B + ls.length + 1)] } := hz0
  replace hs0 : Heap.SameBut (B + ls.length + 2) hp g0 := hs0
  obtain ⟨olds, ho, hto⟩ := st.to
  have hto0 := hs0.extBut _ _ (ane (by omega)) hto
  have hti0 := hs0.extBut _ _ (ane (by omega)) st.ti
  have rw0 : ZRw g0 B m ls vs := rw'.keep fun b o hb e => hs0.extBut _ _ (ane (by omega)) e
  have hzi : ((List.map (fun j => Value.ref (B + j)) (List.range ls.length)).toArray.toList.zipIdx) = (List.range ls.length).map fun j => (Value.ref (B + j), j) := by
    rw [List.toList_toArray]
    refine List.ext_getElem? fun k => ?_
    rw [List.getElem?_zipIdx, List.getElem?_map, List.getElem?_map]
    cases h : (List.range ls.length)[k]? with
    | none => rfl
    | some q =>
      have := List.getElem?_eq_some_iff.mp h
      obtain ⟨h1, h2⟩ := this
      rw [List.getElem_range] at h2
      subst h2
      simp
  rw [hzi]
  refine wpAny_bind (wpAny_forIn_list _ (fun rest b s' => ∃ k h' tk' os', s' = ⟨h', g, d, tk', os⟩ ∧ rest = ((List.range ls.length).map fun j => (Value.ref (B + j), j)).drop k ∧ k ≤ ls.length ∧ b.1 = none ∧
    h'.objs.size = g0.objs.size ∧ (∀ c o, (∀ j, j < k → c ≠ B + j) → c ≠ B + ls.length + 1 → g0.get? c = some o → h'.get? c = some o) ∧ (os' : List Value).length = ls.length ∧ h'.get? (B + ls.length + 1) = some { cls := .type "tuple", data := .seq os'.toArray } ∧
    (∀ j, j < k → os'[j]? = some ((vs j).getD i .none)) ∧ ∀ j l, j < k → ls[j]? = some l → h'.IsTupleIter (B + j) l (i + 1)) _ ?_ ?_ _ _ ⟨0, g0, tk, olds, rfl, rfl, Nat.zero_le _, rfl, rfl, fun _ _ _ _ e => e, ho, hto0, fun j h => absurd h (by omega), fun j l h => absurd h (by omega)⟩)
  · rintro x rest b s' ⟨k, h', tk', os', rfl, hr, hk, hb, hz, kp, hol, hto', hcol, hd⟩
    have hlt : k < ls.length := by
      rcases Nat.lt_or_ge k ls.length with h | h
      · exact h
      · rw [List.drop_of_length_le (by simpa using h)] at hr
        cases hr
    have hdr : ((List.range ls.length).map fun j => (Value.ref (B + j), j)).drop k = (Value.ref (B + k), k) :: ((List.range ls.length).map fun j => (Value.ref (B + j), j)).drop (k + 1) := by
      rw [List.drop_eq_getElem_cons (by simpa using hlt)]
      simp
    rw [hdr] at hr
    injection hr with hx hrest
    subst hx
    obtain ⟨lB, lm, lt⟩ := rw0 k _ (List.getElem?_eq_getElem hlt)
    have DT := Draws.tuple (prog := prog) (w := w) (A := A) hh (B + k) ls[k] (ane (by omega)) (vs k).toArray
    have S0 : h'.IsTupleIter (B + k) ls[k] i ∧ h'.IsTuple ls[k] (vs k).toArray := ⟨((st.its k _ (List.getElem?_eq_getElem hlt)).at fun o e => hs0.extBut _ _ (ane (by omega)) e).at fun o e => kp _ _ (fun j hj => ane (by omega)) (ane (by omega)) e, lt.at fun o e => kp _ _ (fun j hj => ane (by omega)) (ane (by omega)) e⟩
    dsimp only
    refine wpAny_bind (wpAny_onRaise ?_)
    show wpAny _ _ (Builtin.SmallTypes.nextOf (.ref (B + k)) >>= _) _ _ _
    refine wpAny_bind (DT.item i _ _ _ (by rw [List.size_toArray, lm]; exact hi) S0 fun x p1 tk1 hx1 sn1 hp1' => wpAny_pure ?_)
    replace hp1' : Heap.SameBut (B + k) h' p1 := hp1'
    have ex : x = (vs k).getD i .none := by
      rw [row_get lm hi] at hx1
      exact (Option.some.inj hx1).symm
    dsimp only
    have hto1 := hp1'.extBut _ _ (ane (by omega)) hto'
    refine wpAny_bind (wpAny_seqItems (s := ⟨p1, g, d, tk1, os⟩) hto1 rfl ?_)
    dsimp only
    have zs8 : os'.toArray.size ≤ sizeLine := by rw [List.size_toArray, hol]; exact Evl.sz_of (by omega)
    refine wpAny_bind (wpAny_updateSeq (s := ⟨p1, g, d, tk1, os⟩) (hz := zs8) (_hz' := by rw [Array.size_setIfInBounds]; exact Nat.le_succ_of_le zs8) hto1 rfl ?_)
    have hs2 : Heap.SameBut (B + ls.length + 1) p1 (p1.update (B + ls.length + 1) (Obj.mapSeq fun y => y.setIfInBounds k x)) := Heap.SameBut.update ..
    have hto2 := Heap.get?_update_self (Obj.mapSeq fun y => y.setIfInBounds k x) hto1 rfl
    refine wpAny_bind (wpAny_letGo (wpAny_pure ⟨k + 1, _, tk1, os'.set k x, rfl, hrest, hlt, rfl, hs2.1.trans (hp1'.1.trans hz), fun c o hc hc1 e => hs2.extBut c o hc1 (hp1'.extBut c o (hc k (Nat.lt_succ_self k)) (kp c o (fun j hj => hc j (Nat.lt_succ_of_lt hj)) hc1 e)), by rw [List.length_set]; exact hol, ?_, fun j hj => ?_, fun j l hj e => ?_⟩))
    · refine hto2.trans ?_
      simp [Obj.mapSeq]
    · by_cases hjk : j = k
      · subst hjk
        rw [List.getElem?_set_self (by omega), ex]
      · rw [List.getElem?_set_ne (Ne.symm hjk)]
        exact hcol j (by omega)
    · by_cases hjk : j < k
      · exact (hd j l hjk e).at fun o q => hs2.extBut _ _ (ane (by omega)) (hp1'.extBut _ _ (ane (by omega)) q)
      · have ej : j = k := by omega
        subst ej
        rw [List.getElem?_eq_getElem hlt] at e
        rw [← Option.some.inj e]
        exact sn1.1.at fun o q => hs2.extBut _ _ (ane (by omega)) q
  · rintro b s' ⟨k, h', tk', os', rfl, hr, hk, hb, hz, kp, hol, hto', hcol, hd⟩
    have hkl : k = ls.length := by
      rcases Nat.lt_or_ge k ls.length with h | h
      · rw [List.drop_eq_getElem_cons (by simpa using h)] at hr
        cases hr
      · omega
    subst hkl
    obtain ⟨b1, b2⟩ := b
    dsimp only at hb
    subst hb
    have eos : os' = zcol vs ls.length i := by
      refine List.ext_getElem? fun j => ?_
      rcases Nat.lt_or_ge j ls.length with h | h
      · rw [hcol j h, zcol_get h]
      · rw [List.getElem?_eq_none (by omega), List.getElem?_eq_none (by unfold zcol; rw [List.length_map, List.length_range]; exact h)]
    subst eos
    dsimp only
    refine wpAny_bind (wpAny_seqItems (s := ⟨h', g, d, tk', os⟩) hto' rfl ?_)
    dsimp only
    refine wpAny_bind (wpAny_newTuple (hsz := by rw [hol]; exact Evl.sz_of (by omega)) ?_)
    have hsz : h'.objs.size = hp.objs.size := hz.trans hs0.1
    have hzz : h'.get? (B + ls.length + 2) = some { cls := .type "zip", data := .fields #[.ellipsis, .bool false, .bool false, .ref (B + ls.length), .ref (B + ls.length + 1)] } := kp _ _ (fun j hj => ane (by omega)) (ane (by omega)) hz0
    show wpAny _ _ (Builtin.SmallTypes.ownedTupleHandOut (.ref (B + ls.length + 2)) (.ref h'.objs.size) >>= _) _ _ ⟨h'.push { cls := .type "tuple", data := .seq (zcol vs ls.length i).toArray }, g, d, tk', os⟩
    refine wpAny_bind ?_
    unfold Builtin.SmallTypes.ownedTupleHandOut
    have hz₆ : (h'.push { cls := .type "tuple", data := .seq (zcol vs ls.length i).toArray }).get? (B + ls.length + 2) = some { cls := .type "zip", data := .fields #[.ellipsis, .bool false, .bool false, .ref (B + ls.length), .ref (B + ls.length + 1)] } := Heap.get?_push_of_some _ hzz
    refine wpAny_bind (wpAny_setField_rec hz₆ (by simp) fun h₇ hz₇ hs₇ => ?_)
    replace hz₇ : h₇.get? (B + ls.length + 2) = some { cls := .type "zip", data := .fields #[rawInt h'.objs.size, .bool false, .bool false, .ref (B + ls.length), .ref (B + ls.length + 1)] } := hz₇
    refine wpAny_setField_rec hz₇ (by simp) fun h₈ hz₈ hs₈ => ?_
    replace hz₈ : h₈.get? (B + ls.length + 2) = some { cls := .type "zip", data := .fields #[rawInt h'.objs.size, .bool false, .bool false, .ref (B + ls.length), .ref (B + ls.length + 1)] } := hz₈
    replace hs₇ : Heap.SameBut (B + ls.length + 2) (h'.push { cls := .type "tuple", data := .seq (zcol vs ls.length i).toArray }) h₇ := hs₇
    replace hs₈ : Heap.SameBut (B + ls.length + 2) h₇ h₈ := hs₈
    have up : ∀ c o, c ≠ B + ls.length + 2 → h'.get? c = some o → h₈.get? c = some o := fun c o c1 e => hs₈.extBut _ _ c1 (hs₇.extBut _ _ c1 (Heap.get?_push_of_some _ e))
    have hT₈ : h₈.get? h'.objs.size = some { cls := .type "tuple", data := .seq (zcol vs ls.length i).toArray } := hs₈.extBut _ _ (ane (by omega)) (hs₇.extBut _ _ (ane (by omega)) (Heap.get?_push_size _ rfl))
    have hz8 : h₈.objs.size = h'.objs.size + 1 := by rw [hs₈.1, hs₇.1, Heap.size_push]
    rw [hsz] at hz₈ hT₈ hz8
    refine wpAny_pure ⟨_, rfl, ?_⟩
    show Q (.ref h'.objs.size) ⟨h₈, g, d, tk', os⟩
    rw [hsz]
    exact hQ h₈ tk' ⟨hz₈, up _ _ (ane (by omega)) (kp _ _ (fun j hj => ane (by omega)) (ane (by omega)) hti0), ⟨_, hol, up _ _ (ane (by omega)) hto'⟩, fun j l e => (hd j l (List.getElem?_eq_some_iff.mp e).1 e).at fun o q => up _ _ (ane (by have := (List.getElem?_eq_some_iff.mp e).1; omega)) q⟩ hT₈ hz8
      fun c o hc1 hc2 hc3 e => up c o hc3 (kp c o hc1 hc2 (hs0.extBut c o hc3 e))
/-- nothing is left -/
theorem zip_next_end {Q : Fin → Shared → Prop} {a : Addr} {f : Bool} {oa : Obj} (hh : A.handled = none) (n0 : 0 < ls.length) (st : ZSt s.heap B ls.length ls m (rawInt a) (.bool f)) (ha : s.heap.get? a = some oa) (rw' : ZRw s.heap B m ls vs)
    (hE : ∀ h' tk e, (∀ c o, (∀ j, j < ls.length → c ≠ B + j) → c ≠ B + ls.length + 2 → s.heap.get? c = some o → h'.get? c = some o) → (∃ o, h'.get? e = some o ∧ o.cls = .type "StopIteration") → E (.ref e) { s with heap := h', toks := tk }) :
    wpAny (model prog w) A (Builtin.«zip.__next__» ⟨[.ref (B + ls.length + 2)], []⟩) Q E s := by
  obtain ⟨hp, g, d, tk, os⟩ := s
  dsimp only at st ha rw' hE
  have hzl : B + ls.length + 2 < hp.objs.size := Heap.lt_size st.z
  show wpAny _ _ (field (.ref (B + ls.length + 2)) 2 >>= _) _ _ _
  refine wpAny_bind (wpAny_field st.z rfl (x := .bool false) rfl ?_)
  show wpAny _ _ (field (.ref (B + ls.length + 2)) 3 >>= _) _ _ _
  refine wpAny_bind (wpAny_field st.z rfl (x := .ref (B + ls.length)) rfl ?_)
  refine wpAny_bind (wpAny_seqItems st.ti rfl ?_)
  dsimp only
  have nem : ¬ ((List.map (fun j => Value.ref (B + j)) (List.range ls.length)).toArray.isEmpty = true) := fun q => by
    simp only [List.isEmpty_toArray, List.isEmpty_iff] at q
    have := congrArg List.length q
    rw [List.length_map, List.length_range] at this
    simp at this
    rw [this] at n0
    simp at n0
  rw [if_neg nem]
  have free : wpAny (model prog w) A (Builtin.SmallTypes.ownedTupleIsFree (.ref (B + ls.length + 2))) (fun r s' => r = false ∧ ∃ hp1 : Heap, s' = ⟨hp1, g, d, tk, os⟩ ∧ hp1.objs.size = hp.objs.size ∧ (∀ c o, c ≠ B + ls.length + 2 → hp.get? c = some o → hp1.get? c = some o)) E ⟨hp, g, d, tk, os⟩ := by
    unfold Builtin.SmallTypes.ownedTupleIsFree
    refine wpAny_bind (wpAny_field st.z rfl (x := rawInt a) rfl ?_)
    show wpAny _ _ (loadIfAlive ((a : Int).toNat) >>= _) _ _ _
    rw [Int.toNat_natCast]
    refine wpAny_bind (PySem.W.kdx_alive ha ?_)
    simp only [Option.isNone_some, Bool.false_eq_true, if_false]
    refine wpAny_bind (wpAny_field st.z rfl (x := .bool f) rfl ?_)
    cases f with
    | true =>
      rw [if_neg (show ¬ ((Value.bool true != Value.bool true) = true) from Bool.false_ne_true)]
      exact wpAny_pure ⟨rfl, hp, rfl, rfl, fun _ _ _ e => e⟩
    | false =>
      rw [if_pos (show (Value.bool false != Value.bool true) = true from rfl)]
      refine wpAny_bind (wpAny_setField_rec st.z (by simp) fun h₃ he₃ hs₃ => ?_)
      replace hs₃ : Heap.SameBut (B + ls.length + 2) hp h₃ := hs₃
      exact wpAny_pure ⟨rfl, h₃, rfl, hs₃.1, fun c o hc e => hs₃.extBut c o hc e⟩
  refine wpAny_bind (wpAny_mono free (fun r s' hr => ?_) fun _ _ x => x)
  obtain ⟨rfl, hp1, rfl, hz1, kp1⟩ := hr
  simp only [Bool.false_eq_true, if_false]
  have el : (List.map (fun j => Value.ref (B + j)) (List.range ls.length)).toArray.toList = Value.ref (B + 0) :: ((List.range ls.length).map fun j => Value.ref (B + j)).drop 1 := by
    rw [List.toList_toArray, ← drop_its n0, List.drop_zero]
  refine wpAny_bind ?_
  rw [← Array.forIn_toList, el, List.forIn_cons]
  obtain ⟨lB, lm, lt⟩ := rw' 0 _ (List.getElem?_eq_getElem n0)
  have DT := Draws.tuple (prog := prog) (w := w) (A := A) hh (B + 0) ls[0] (ane (by omega)) (vs 0).toArray
  have S0 : hp1.IsTupleIter (B + 0) ls[0] m ∧ hp1.IsTuple ls[0] (vs 0).toArray := ⟨(st.its 0 _ (List.getElem?_eq_getElem n0)).at fun o e => kp1 _ _ (ane (by omega)) e, lt.at fun o e => kp1 _ _ (ane (by omega)) e⟩
  refine wpAny_bind (wpAny_bind (wpAny_holding ?_))
  show wpAny _ _ (Builtin.SmallTypes.nextOf (.ref (B + 0)) >>= _) _ _ _
  refine wpAny_bind (DT.done _ _ _ (by rw [List.size_toArray, lm]; exact S0) fun q e hq he => ?_)
  exact hE q tk e (fun c o h1 h2 x => hq c o (h1 0 n0) (kp1 c o h2 x)) he
/-- one turn: Nx h i: the walk stands ahead of turn i -/
def ZWk (h : Heap) (B m : Nat) (ls : List Addr) (vs : Nat → List Value) (S i : Nat) : Prop := ZRw h B m ls vs ∧
  ((i = 0 ∧ ZSt h B ls.length ls 0 .none (.bool false)) ∨ (0 < i ∧ ∃ (a : Addr) (f : Bool) (oa : Obj), ZSt h B ls.length ls i (rawInt a) (.bool f) ∧ h.get? a = some oa ∧ B + ls.length + 2 < a ∧ a ≠ S))
theorem ZWk.keep {h h' : Heap} {S : Nat} (x : ZWk h B m ls vs S i) (k : ∀ b o, b ≠ S → h.get? b = some o → h'.get? b = some o) (hS : B + ls.length + 2 < S) (hr : ∀ l ∈ ls, l ≠ S) : ZWk h' B m ls vs S i := by
  have zk : ∀ {i f0 f1}, ZSt h B ls.length ls i f0 f1 → ZSt h' B ls.length ls i f0 f1 := fun st => by
    obtain ⟨olds, ho, hto⟩ := st.to
    exact ⟨k _ _ (ane (by omega)) st.z, k _ _ (ane (by omega)) st.ti, ⟨olds, ho, k _ _ (ane (by omega)) hto⟩, fun j l e => (st.its j l e).at fun o q => k _ _ (ane (by have := (List.getElem?_eq_some_iff.mp e).1; omega)) q⟩
  refine ⟨fun j l e => ?_, ?_⟩
  · obtain ⟨a, b, c⟩ := x.1 j l e
    exact ⟨a, b, c.at fun o q => k l o (hr l (List.mem_of_getElem? e)) q⟩
  · rcases x.2 with ⟨e, st⟩ | ⟨e, a, f, oa, st, ha, hz, hs⟩
    · exact .inl ⟨e, zk st⟩
    · exact .inr ⟨e, a, f, oa, zk st, k _ _ hs ha, hz, hs⟩
theorem zip_item {Q : Option Value → Shared → Prop} {S : Nat} (hh : A.handled = none) (n0 : 0 < ls.length) (n8 : ls.length ≤ 8) (x : ZWk s.heap B m ls vs S i) (hS : B + ls.length + 2 < S) (hS' : S < s.heap.objs.size) (hi : i < m)
    (hQ : ∀ h' tk, ZWk h' B m ls vs S (i + 1) → h'.get? s.heap.objs.size = some { cls := .type "tuple", data := .seq (zcol vs ls.length i).toArray } → h'.objs.size = s.heap.objs.size + 1 →
      (∀ c o, (c < B ∨ B + ls.length + 2 < c) → s.heap.get? c = some o → h'.get? c = some o) → Q (some (.ref s.heap.objs.size)) { s with heap := h', toks := tk }) :
    wpAny (model prog w) A (pyNext (.ref (B + ls.length + 2))) Q E s := by
  obtain ⟨hr, hx⟩ := x
  have hz : ∃ f0 f1, s.heap.get? (B + ls.length + 2) = some { cls := .type "zip", data := .fields #[f0, f1, .bool false, .ref (B + ls.length), .ref (B + ls.length + 1)] } := by
    rcases hx with ⟨_, st⟩ | ⟨_, a, f, oa, st, _⟩
    · exact ⟨_, _, st.z⟩
    · exact ⟨_, _, st.z⟩
  obtain ⟨f0, f1, hz⟩ := hz
  have hzl : B + ls.length + 2 < s.heap.objs.size := Heap.lt_size hz
  have hT : s.TypeIs (.ref (B + ls.length + 2)) "zip" := ⟨_, hz, rfl⟩
  unfold pyNext
  refine wpAny_bind (wpAny_attempt (wpAny_callSpecial?_slot (name := Str.ofString "__next__") hT F.slot_zip_next
    (wpAny_call_entry F.slot_zip_next hT F.entry_zip_next ?_ (F.args_zip_next_1 _))))
  rcases hx with ⟨e, st⟩ | ⟨e, a, f, oa, st, ha, hza, hs⟩
  · subst e
    refine zip_next_first (A := A.in1) hh n0 n8 st hr hi fun h' tk st' ht hz' kp => wpAny_pure (hQ h' tk ⟨hr.keep fun b o hb e => kp b o (fun j hj => ane (by omega)) (ane (by omega)) (ane (by omega)) e, .inr ⟨by omega, _, false, _, st', ht, by omega, ane (by omega)⟩⟩ ht hz' fun c o hc e => kp c o (fun j hj => ane (by omega)) (ane (by omega)) (ane (by omega)) e)
  · refine zip_next_out (A := A.in1) hh n0 n8 st ha (ane (by omega)) (fun j hj => ane (by omega)) hr hi fun h' tk st' ht hz' kp => wpAny_pure (hQ h' tk ⟨hr.keep fun b o hb e => kp b o (fun j hj => ane (by omega)) (ane (by omega)) e, .inr ⟨by omega, a, true, oa, st', kp a oa (fun j hj => ane (by omega)) (ane (by omega)) ha, hza, hs⟩⟩ ht hz' fun c o hc e => kp c o (fun j hj => ane (by omega)) (ane (by omega)) e)
theorem zip_done {Q : Option Value → Shared → Prop} {S : Nat} (hh : A.handled = none) (n0 : 0 < ls.length) (m0 : 0 < m) (x : ZWk s.heap B m ls vs S m)
    (hQ : ∀ h' tk, (∀ c o, (c < B ∨ B + ls.length + 2 < c) → s.heap.get? c = some o → h'.get? c = some o) → Q none { s with heap := h', toks := tk }) :
    wpAny (model prog w) A (pyNext (.ref (B + ls.length + 2))) Q E s := by
  obtain ⟨hr, ⟨e, _⟩ | ⟨_, a, f, oa, st, ha, hza, hs⟩⟩ := x
  · omega
  · have hT : s.TypeIs (.ref (B + ls.length + 2)) "zip" := ⟨_, st.z, rfl⟩
    unfold pyNext
    refine wpAny_bind (wpAny_attempt (wpAny_callSpecial?_slot (name := Str.ofString "__next__") hT F.slot_zip_next
      (wpAny_call_entry F.slot_zip_next hT F.entry_zip_next (zip_next_end (A := A.in1) hh n0 st ha hr fun h' tk e hk he => ?_) (F.args_zip_next_1 _))))
    obtain ⟨o, ho, hc⟩ := he
    refine wpAny_bind (wpAny_isInstance (T := "StopIteration") (b := true) ⟨o, ho, hc⟩ isSubtype_stop ?_)
    exact wpAny_pure (hQ h' tk fun c o hc e => hk c o (fun j hj => ane (by omega)) (ane (by omega)) e)
end
structure ZG (vs : Nat → List Value) (n lo : Nat) (h : Heap) (as : List Addr) : Prop where
  rise : as.Pairwise (· < ·)
  above : ∀ a ∈ as, lo < a
  cols : ∀ (j : Nat) (a : Addr), as[j]? = some a → h.get? a = some { cls := .type "tuple", data := .seq (zcol vs n j).toArray }
theorem ZG.there {vs : Nat → List Value} {n lo : Nat} {h : Heap} {as : List Addr} (g : ZG vs n lo h as) {a : Addr} (ha : a ∈ as) : a < h.objs.size := by
  obtain ⟨j, hj⟩ := List.mem_iff_getElem?.mp ha
  exact Heap.lt_size (g.cols j a hj)
theorem ZG.low {vs : Nat → List Value} {n lo lo' : Nat} {h : Heap} {as : List Addr} (g : ZG vs n lo h as) (hl : lo' ≤ lo) : ZG vs n lo' h as := ⟨g.rise, fun a ha => Nat.lt_of_le_of_lt hl (g.above a ha), g.cols⟩
section
variable {prog : Program} {w : World} {A : Around} {s : Shared} {R : Result → Shared → Prop} {B m : Nat} {ls : List Addr} {vs : Nat → List Value}
theorem zip_loop {S : Nat} (hh : A.handled = none) (n0 : 0 < ls.length) (n8 : ls.length ≤ 8) (m0 : 0 < m) (hSB : B + ls.length + 2 < S) (hSl : ∀ l ∈ ls, l ≠ S) (hm : m ≤ sizeLine) (res : Value) {h₁ : Heap}
    (hR : ∀ h' tk acc c as, (∀ b o, b ≠ S → (b < B ∨ B + ls.length + 2 < b) → h₁.get? b = some o → h'.get? b = some o) → h'.get? S = some { cls := .type "list", dict := none, data := .seq acc c, slots := #[] } → as.length = m → ZG vs ls.length S h' as →
      acc.toList = as.map Value.ref → R (.ok (.ret res)) { s with heap := h', toks := tk }) :
    ∀ (k i : Nat) (h : Heap) (tk c : Nat) (acc : Array Value) (as : List Addr), m - i = k → i ≤ m → ZWk h B m ls vs S i → (∀ b o, b ≠ S → (b < B ∨ B + ls.length + 2 < b) → h₁.get? b = some o → h.get? b = some o) →
      h.get? S = some { cls := .type "list", dict := none, data := .seq acc c, slots := #[] } → acc.toList = as.map Value.ref → as.length = i → ZG vs ls.length S h as →
      codeAny (model prog w) A (.builtin "list.extend.loop" ⟨[.ref S, .ref (B + ls.length + 2), res], []⟩) R { s with heap := h, toks := tk } := by
  intro k
  induction k with
  | zero =>
    intro i h tk c acc as hk hi hst hkeep hS hacc hal hG
    have hin : i = m := by omega
    subst hin
    refine codeAny_builtin PySem.F.entry_extend_loop ?_
    rw [Around.under_plainId PySem.F.plain_extend_loop _]
    show wpAny _ A.in1 (pyNext (.ref (B + ls.length + 2)) >>= _) _ _ _
    refine wpAny_bind (zip_done (s := { s with heap := h, toks := tk }) (A := A.in1) hh n0 m0 hst fun h' tk' he => ?_)
    refine wpAny_pure (hR h' tk' acc c as (fun b o h1 h2 e => he b o h2 (hkeep b o h1 h2 e)) (he S _ (.inr hSB) hS) hal ⟨hG.rise, hG.above, fun j a hj => ?_⟩ hacc)
    exact he a _ (.inr (Nat.lt_trans hSB (hG.above a (List.mem_of_getElem? hj)))) (hG.cols j a hj)
  | succ k ih =>
    intro i h tk c acc as hk hi hst hkeep hS hacc hal hG
    have hlt : i < m := by omega
    have hsz : acc.size = i := by rw [← Array.length_toList, hacc, List.length_map, hal]
    refine codeAny_builtin PySem.F.entry_extend_loop ?_
    rw [Around.under_plainId PySem.F.plain_extend_loop _]
    show wpAny _ A.in1 (pyNext (.ref (B + ls.length + 2)) >>= _) _ _ _
    refine wpAny_bind (zip_item (s := { s with heap := h, toks := tk }) (A := A.in1) (S := S) hh n0 n8 hst hSB (Heap.lt_size hS) hlt fun h' tk' hst' ht hz hkp => ?_)
    dsimp only at ht hz hkp ⊢
    have hS' := hkp S _ (.inr hSB) hS
    have up : ∀ b o, b ≠ S → h'.get? b = some o → (h'.update S (Obj.mapSeq (·.push (Value.ref h.objs.size)))).get? b = some o := fun b o hb e => (Heap.get?_update_other _ _ (Ne.symm hb)).trans e
    have hSl' : S < h.objs.size := Heap.lt_size hS
    show wpAny _ A.in1 (updateSeq S (·.push (Value.ref h.objs.size)) >>= _) _ _ _
    refine wpAny_bind ?_
    refine wpAny_updateSeq hS' rfl (wpAny_pure ⟨plainId_quiet PySem.F.plain_extend_loop _, ih (i + 1) _ tk' _ (acc.push (Value.ref h.objs.size)) (as ++ [h.objs.size]) (by omega) hlt (hst'.keep up hSB hSl)
      (fun b o h1 h2 e => up b o h1 (hkp b o h2 (hkeep b o h1 h2 e))) (Heap.get?_update_self _ hS' rfl) (by rw [Array.toList_push, hacc, List.map_append]; rfl) (by rw [List.length_append, hal]; rfl) ⟨?_, ?_, ?_⟩⟩) (by rw [hsz]; omega) (by show (acc.push (Value.ref h.objs.size)).size ≤ sizeLine + 1; rw [Array.size_push, hsz]; omega)
    · refine List.pairwise_append.mpr ⟨hG.rise, List.pairwise_singleton _ _, fun a ha b hb => ?_⟩
      rw [List.mem_singleton.mp hb]
      exact hG.there ha
    · intro a ha
      rcases List.mem_append.mp ha with ha | ha
      · exact hG.above a ha
      · rw [List.mem_singleton.mp ha]; exact hSl'
    · intro j b hj
      rcases Nat.lt_trichotomy j as.length with h1 | h1 | h1
      · rw [List.getElem?_append_left h1] at hj
        have hb := hG.above b (List.mem_of_getElem? hj)
        exact up b _ (ane (by omega)) (hkp b _ (.inr (Nat.lt_trans hSB hb)) (hG.cols j b hj))
      · subst h1
        have hb : h.objs.size = b := by simpa using hj
        subst hb
        rw [hal]
        exact up _ _ (ane (by omega)) ht
      · have hnone : (as ++ [h.objs.size])[j]? = none := List.getElem?_eq_none (by rw [List.length_append, List.length_singleton]; omega)
        rw [hnone] at hj; cases hj
end
theorem zip_nolen : typeLookup (.type "zip") "__len__" = pure none := by rw [typeLookup_type, builtinLookup_eq_fast]; kernel_rfl
theorem zip_nohint : typeLookup (.type "zip") "__length_hint__" = pure none := by rw [typeLookup_type, builtinLookup_eq_fast]; kernel_rfl
section
variable {prog : Program} {w : World} {A : Around} {E : Value → Shared → Prop} {s : Shared} {B m : Nat} {ls : List Addr} {vs : Nat → List Value}
theorem zip_hint {r : Addr} (hT : s.TypeIs (.ref r) "zip") {Q : Bool → Shared → Prop} (h : Q true s) : wpAny (model prog w) A (Builtin.List.listLengthHint (.ref r)) Q E s := by
  unfold Builtin.List.listLengthHint
  refine wpAny_bind (wpAny_specialOf hT zip_nolen ?_)
  refine wpAny_ite_split (fun hab => absurd hab (by decide)) (fun _ => ?_)
  refine wpAny_ite_split (fun hab => absurd hab (by decide)) (fun _ => ?_)
  refine wpAny_bind (wpAny_specialOf hT zip_nohint ?_)
  exact wpAny_pure h
theorem zip_extend {R : Result → Shared → Prop} {S : Nat} (hh : A.handled = none) (n0 : 0 < ls.length) (n8 : ls.length ≤ 8) (m0 : 0 < m) (hm : m ≤ sizeLine) (x : ZWk s.heap B m ls vs S 0) (hSB : B + ls.length + 2 < S) (hSl : ∀ l ∈ ls, l ≠ S) (res : Value) (c₀ : Nat) (hS : s.heap.get? S = some { cls := .type "list", data := .seq #[] c₀ })
    (hR : ∀ h' tk acc c as, (∀ b o, b ≠ S → (b < B ∨ B + ls.length + 2 < b) → s.heap.get? b = some o → h'.get? b = some o) → h'.get? S = some { cls := .type "list", dict := none, data := .seq acc c, slots := #[] } → as.length = m → ZG vs ls.length S h' as →
      acc.toList = as.map Value.ref → R (.ok (.ret res)) { s with heap := h', toks := tk }) :
    wpAny (model prog w) A.in1 (Builtin.List.listExtendWith (.ref S) (.ref (B + ls.length + 2)) res)
      (fun fin s' => match fin with | .done f => R (.ok f) s' | .again c' => c'.quiet = true ∧ codeAny (model prog w) A c' R s') (fun e s' => R (.error e) s') s := by
  have hz : s.heap.get? (B + ls.length + 2) = some { cls := .type "zip", data := .fields #[.none, .bool false, .bool false, .ref (B + ls.length), .ref (B + ls.length + 1)] } := by
    rcases x.2 with ⟨_, st⟩ | ⟨e, _⟩
    · exact st.z
    · omega
  have hT : s.TypeIs (.ref (B + ls.length + 2)) "zip" := ⟨_, hz, rfl⟩
  have hzl : B + ls.length + 2 < s.heap.objs.size := Heap.lt_size hz
  have key : ∀ (h : Heap) (c₁ tk : Nat), h.objs.size = s.heap.objs.size → (∀ b o, b ≠ S → s.heap.get? b = some o → h.get? b = some o) →
      h.get? S = some { cls := .type "list", data := .seq #[] c₁ } → codeAny (model prog w) A (.builtin "list.extend.loop" ⟨[.ref S, .ref (B + ls.length + 2), res], []⟩) R { s with heap := h, toks := tk } := by
    intro h c₁ tk hsz hk hS₁
    refine zip_loop (vs := vs) (s := s) (h₁ := h) hh n0 n8 m0 hSB hSl hm res (fun h' tk' acc c as hk' hS' hl hG hacc => hR h' tk' acc c as (fun b o hb hc e => hk' b o hb hc (hk b o hb e)) hS' hl hG hacc)
      m 0 h tk c₁ #[] [] (Nat.sub_zero _) (Nat.zero_le _) (x.keep hk hSB hSl) (fun b o hb _ e => e) hS₁ rfl rfl
      ⟨List.Pairwise.nil, (fun _ ha => nomatch ha), (fun j a hj => by simp at hj)⟩
  unfold Builtin.List.listExtendWith
  refine wpAny_bind (wpAny_typeOf (T := "zip") hT ?_)
  have h1 : Builtin.List.listSameRef (.ref S) (.ref (B + ls.length + 2)) = false := by
    simp only [Builtin.List.listSameRef]
    exact beq_false_of_ne (ane (by omega))
  have h2 : (Value.type "zip" == Value.type "list") = false := by decide
  have h3 : (Value.type "zip" == Value.type "tuple") = false := by decide
  simp only [h1, h2, h3, Bool.or_false, Bool.false_eq_true, if_false]
  refine wpAny_bind (wpAny_pyIter_zip hz ?_)
  refine wpAny_bind (wpAny_holding (zip_hint hT ?_))
  refine wpAny_ite_split (fun _ => ?_) (fun hab => by exfalso; simp at hab)
  refine wpAny_bind (wpAny_rule ?_)
  refine wpAny_bind ?_
  show wpAny _ _ (updateSeq S (·.push .none) >>= fun _ => updateSeq S (·.pop)) _ _ _
  refine wpAny_bind (wpAny_updateSeq hS rfl ?_)
  have hS₂ := Heap.get?_update_self (Obj.mapSeq (·.push Value.none)) hS rfl
  refine wpAny_updateSeq (hz := by seq_fits) hS₂ rfl ?_
  have hS₃ := Heap.get?_update_self (Obj.mapSeq (·.pop)) hS₂ rfl
  refine wpAny_pure ⟨plainId_quiet PySem.F.plain_extend_loop _, key _ _ _ ?_ (fun b o hb e => ?_) hS₃⟩
  · rw [(Heap.SameBut.update ..).1, (Heap.SameBut.update ..).1]
  · exact (Heap.get?_update_other _ _ (Ne.symm hb)).trans ((Heap.get?_update_other _ _ (Ne.symm hb)).trans e)
/-- list(z), z the zip just made -/
theorem zip_list {Q : Value → Shared → Prop} (hh : A.handled = none) (n0 : 0 < ls.length) (n8 : ls.length ≤ 8) (m0 : 0 < m) (hm : m ≤ sizeLine) (hr : ZRw s.heap B m ls vs) (st : ZSt s.heap B ls.length ls 0 .none (.bool false)) (hsz : s.heap.objs.size = B + ls.length + 3)
    (hQ : ∀ h' tk acc c as, (∀ b o, b < B → s.heap.get? b = some o → h'.get? b = some o) → h'.get? (B + ls.length + 3) = some { cls := .type "list", dict := none, data := .seq acc c, slots := #[] } → as.length = m → ZG vs ls.length (B + ls.length + 3) h' as →
      acc.toList = as.map Value.ref → Q (.ref (B + ls.length + 3)) { s with heap := h', toks := tk }) :
    wpAny (model prog w) A (call (.type "list") [.ref (B + ls.length + 2)]) Q E s := by
  refine callType_codes (Q₁ := fun obj s₁ => obj = .ref s.heap.objs.size ∧ s₁ = { s with heap := s.heap.push { cls := .type "list", data := .seq #[] } }) PySem.F.called_list (PySem.F.typeCall_list_1 _) PySem.F.entry_list_init
    (code_list_new _ ⟨rfl, rfl⟩) fun obj s₁ h₁ => ?_
  obtain ⟨rfl, rfl⟩ := h₁
  have hS : (s.heap.push { cls := .type "list", data := .seq #[] }).get? s.heap.objs.size = some { cls := .type "list", data := .seq #[] } := Heap.get?_push_size _ rfl
  refine ⟨⟨_, hS, rfl⟩, PySem.F.args_list_init_2 _ _, ?_⟩
  generalize hSe : s.heap.objs.size = S at hS hsz ⊢
  show wpAny _ _ (do let old ← Builtin.List.listItems (.ref S); Builtin.List.listUpdate (.ref S) (fun _ => #[]); letGo old.toList.reverse; Builtin.List.listExtendWith (.ref S) (.ref (B + ls.length + 2)) .none) _ _ _
  refine wpAny_bind ?_
  unfold Builtin.List.listItems
  refine wpAny_bind (wpAny_seqItems hS rfl (wpAny_pure ?_))
  show wpAny _ _ (updateSeq S (fun _ => #[]) >>= fun _ => letGo (#[] : Array Value).toList.reverse >>= fun _ => Builtin.List.listExtendWith (.ref S) (.ref (B + ls.length + 2)) .none) _ _ _
  refine wpAny_bind (wpAny_updateSeq hS rfl ?_)
  have hS₂ := Heap.get?_update_self (Obj.mapSeq (fun _ => (#[] : Array Value))) hS rfl
  have oth : ∀ b o, b ≠ S → s.heap.get? b = some o → ((s.heap.push { cls := .type "list", data := .seq #[] }).update S (Obj.mapSeq (fun _ => (#[] : Array Value)))).get? b = some o :=
    fun b o hb e => (Heap.get?_update_other _ _ (Ne.symm hb)).trans (Heap.get?_push_of_some _ e)
  refine wpAny_bind (wpAny_letGo ?_)
  have lo : ∀ l ∈ ls, l ≠ S := fun l hl => by
    obtain ⟨j, hj⟩ := List.mem_iff_getElem?.mp hl
    have := (hr j l hj).1
    exact ane (by omega)
  have x0 : ZWk s.heap B m ls vs S 0 := ⟨hr, .inl ⟨rfl, st⟩⟩
  refine zip_extend (vs := vs) (A := A.in1) hh n0 n8 m0 hm (x0.keep oth (by omega) lo) (by omega) lo .none _ hS₂ fun h' tk acc c as hk hS' hl hG hacc => ?_
  rw [hsz] at hS' hG ⊢
  exact ⟨rfl, hQ h' tk acc c as (fun b o hb e => hk b o (ane (by omega)) (.inl hb) (oth b o (ane (by omega)) e)) hS' hl hG hacc⟩
end
/-! ### as a rule -/
theorem inv_many {X : Cx} {pins : List (Addr × Obj)} {σ : L2.St} {H H2 : Hp} {s : Shared} {h' : Heap} {t' : Nat} (I : Inv X pins σ H s) (k : ∀ b o, s.heap.get? b = some o → h'.get? b = some o) (old : ∀ b, b < s.heap.objs.size → H2 b = H b)
    (same : Same H H2) (new : ∀ b o, s.heap.objs.size ≤ b → H2 b = some o → ObjOk X.prog X.w H2 h' b o) : Inv X pins σ H2 { s with heap := h', toks := t' } := by
  have nn : ∀ {b o}, H b = some o → b < s.heap.objs.size := fun {b o} e => by
    rcases Nat.lt_or_ge b s.heap.objs.size with h | h
    · exact h
    · rw [I.hok.fresh h] at e
      cases e
  have u : Un X.fs [] H H2 s.heap h' := {
    keep := fun b u q _ _ _ => k b u q
    slot := fun b u q _ _ _ => ⟨u.slots, k b u q⟩
    free := fun b u q n _ => by rw [old b (Heap.lt_size q)]; exact n
    there := fun b u q _ => ⟨u, k b u q⟩
    tups := fun b xs q => same _ _ q
    frzs := fun b o u q => same _ _ q
    tbls := fun b ps q => ⟨#[], by rw [same _ _ q]; simp⟩ }
  refine I.un (t' := t') u fun b o e => ?_
  rcases Nat.lt_or_ge b s.heap.objs.size with h | h
  · rw [old b h] at e
    exact (I.hok b o e).stay (fun c v _ q => k c v q) (fun c q => same _ _ q) fun c xs q => same _ _ q
  · exact new b o h e
def vcol (rows : Nat → List V) (n i : Nat) : List V := (List.range n).map fun j => (rows j).getD i .non
/-- list(zip(*e)), e some tuples of one length -/
def tListZip (K : PySem.W.Frag) (te : TE) : TE := fun σ H Q => te σ H fun y H1 => ∃ (b : Addr) (ls : List Addr) (rows : Nat → List V) (m : Nat), y = .ref b ∧ (SqT K H1 b (ls.map V.ref) ∨ SqL K H1 b (ls.map V.ref)) ∧ 0 < ls.length ∧ ls.length ≤ 8 ∧ 0 < m ∧ m ≤ 1000 ∧
  (∀ j l, ls[j]? = some l → SqT K H1 l (rows j) ∧ (rows j).length = m) ∧
  ∀ (H2 : Hp) (q : Addr) (as : List Addr), Same H1 H2 → H1 q = none → H2 q = some (.lst (as.map V.ref)) → as.length = m → (∀ i a, as[i]? = some a → H1 a = none ∧ H2 a = some (.tup (vcol rows ls.length i))) → Q (.ref q) H2
theorem vals_mapref : ∀ as : List Addr, Vals (as.map V.ref) (as.map Value.ref)
  | [] => .nil
  | _ :: as => .cons rfl (vals_mapref as)
theorem vals_refs' : ∀ {ls : List Addr} {us : List Value}, Vals (ls.map V.ref) us → us = ls.map Value.ref
  | [], us, r => by cases r; rfl
  | a :: ls, us, r => by
    cases r with
    | @cons _ u _ ur h hr =>
      obtain rfl : u = Value.ref a := h
      rw [vals_refs' hr]
      rfl
theorem vals_col {rows : Nat → List V} {vs : Nat → List Value} {n i m : Nat} (h : ∀ j, j < n → Vals (rows j) (vs j) ∧ (rows j).length = m) (hi : i < m) : Vals (vcol rows n i) (zcol vs n i) := by
  have go : ∀ L : List Nat, (∀ j ∈ L, j < n) → Vals (L.map fun j => (rows j).getD i .non) (L.map fun j => (vs j).getD i .none) := by
    intro L
    induction L with
    | nil => exact fun _ => .nil
    | cons j L ih =>
      intro hL
      refine .cons ?_ (ih fun k hk => hL k (List.mem_cons_of_mem _ hk))
      obtain ⟨r, e⟩ := h j (hL j (List.mem_cons_self ..))
      obtain ⟨u, hu, ru⟩ := r.get (List.getElem?_eq_getElem (show i < (rows j).length by omega))
      show RelV ((rows j).getD i .non) ((vs j).getD i .none)
      rw [List.getD_eq_getElem?_getD, List.getD_eq_getElem?_getD, hu, List.getElem?_eq_getElem (show i < (rows j).length by omega)]
      exact ru
  exact go _ fun j hj => List.mem_range.mp hj
theorem pe_listZip {X : Cx} {e : Expr} {te : TE} {p p2 p3 pos pos2 : Pos} (hh : X.calm = true) (hg : Gl X "list") (hm : X.mg "list" = none) (hgz : Gl X "zip") (hmz : X.mg "zip" = none) (he : PE X e te)
    (hs : starEach [.Call (.Name "zip" p2) [.Starred e p3] [] pos2] X.env = (false, eval (.Call (.Name "zip" p2) [.Starred e p3] [] pos2) X.env) :: starEach [] X.env := by rfl)
    (hst : starEach [.Starred e p3] X.env = [(true, eval e X.env)] := by rfl)
    (hev : eval (.Call (.Name "zip" p2) [.Starred e p3] [] pos2) X.env = (do callWith pos2 (← eval (.Name "zip" p2) X.env) [] (backTo pos2 (starEach [.Starred e p3] X.env)) (backToKw pos2 (keywordEach [] X.env))) := by rfl) :
    PE X (.Call (.Name "list" p) [.Call (.Name "zip" p2) [.Starred e p3] [] pos2] [] pos) (tListZip X.K te) := by
  refine ⟨fun pins s σ H Q I h => ?_⟩
  refine Call_ (ld_blt I hg hm boot_list (PyProof.Rows.callWith_type1 (args_cons ?_ hs) hs))
  refine Call_ (ld_blt I hgz hmz PyProof.Rows.boot_zip ?_) hev
  rw [hst]
  have hk : ∀ h : Heap, True → ∃ k, (k = Keeper.frame ∨ k = Keeper.machine ∨ k = Keeper.boundFrame) ∧ PySem.W.Looks (model X.prog X.w) h (keeperOf (.type "zip")) k := fun h _ => ⟨_, .inr (.inl rfl), .now⟩
  refine PySem.W.ks_call (P := fun _ => True) rfl hk (PySem.W.ks_lone (thn (he.run pins s σ H _ I h) fun v s1 ⟨y, H1, I1, ry, b, ls, rows, m, ey, hb, n0, n8, m0, mm, hrow, q⟩ => ?_))
  subst ey
  obtain rfl : v = Value.ref b := ry
  refine StX.star_any I1 hb fun us s2 I2 rv => ⟨trivial, ?_⟩
  obtain rfl := vals_refs' rv
  -- what the rows are
  have hvs : ∃ vs : Nat → List Value, ∀ j l, ls[j]? = some l → Vals (rows j) (vs j) ∧ s2.heap.IsTuple l (vs j).toArray := by
    have one : ∀ j, ∃ us : List Value, ∀ l, ls[j]? = some l → Vals (rows j) us ∧ s2.heap.IsTuple l us.toArray := fun j => by
      cases hj : ls[j]? with
      | none => exact ⟨[], fun l e => nomatch e⟩
      | some l =>
        obtain ⟨its, rv, pl, _⟩ := I2.tuple (hrow j l hj).1
        exact ⟨its, fun l' e => by
          rw [← Option.some.inj e]
          exact ⟨rv, pl⟩⟩
    exact ⟨fun j => (one j).choose, fun j l e => (one j).choose_spec l e⟩
  obtain ⟨vs, hvs⟩ := hvs
  have hlow : ∀ l ∈ ls, l < s2.heap.objs.size := fun l hl => by
    obtain ⟨j, hj⟩ := List.mem_iff_getElem?.mp hl
    obtain ⟨o, ho, _⟩ := (hvs j l hj).2
    exact Heap.lt_size ho
  show wpAny _ _ (call (.type "zip") (ls.map Value.ref)) _ _ _
  have l8 : (ls.map Value.ref).length ≤ 8 := by rw [List.length_map]; exact n8
  refine callType_new F.called_zip (by decide) (typeCall_zip_n _ l8) (newCall_zip_n _ l8) (fun ob => init_zip_n ob _ l8) F.entry_zip_new (meets_zip_n ls n8) ⟨fun l hl => ?_, fun h' kp hz st => ⟨⟨_, st.z, rfl⟩, ?_⟩⟩
  · obtain ⟨j, hj⟩ := List.mem_iff_getElem?.mp hl
    exact ⟨_, (hvs j l hj).2⟩
  generalize hB : s2.heap.objs.size = B at st hz hlow ⊢
  refine args_nil ?_
  show wpAny _ _ (call (.type "list") [.ref (B + ls.length + 2)]) _ _ _
  have hZR : ZRw h' B m ls vs := fun j l e => ⟨hlow l (List.mem_of_getElem? e), by rw [← (hvs j l e).1.length]; exact (hrow j l e).2, (hvs j l e).2.at fun o q => kp _ _ q⟩
  refine zip_list (s := { s2 with heap := h' }) (vs := vs) (I.ok.hd hh) n0 n8 m0 (Evl.sz_of (by omega)) hZR st hz fun h2 tk acc c as kp2 hS hl hG hacc => ?_
  have nd : as.Nodup := hG.rise.imp fun {x y} h e => by rw [e] at h; exact Nat.lt_irrefl _ h
  have hS1 : H1 (B + ls.length + 3) = none := I2.hok.fresh (by rw [hB]; omega)
  have big : ∀ b ∈ as, B ≤ b := fun b hb => by have := hG.above b hb; omega
  have hn1 : ∀ b, B ≤ b → H1 b = none := fun b hb => I2.hok.fresh (by rw [hB]; exact hb)
  have hH2 : ∃ H2 : Hp, H2 = fun b => if b = B + ls.length + 3 then some (.lst (as.map V.ref)) else if b ∈ as then some (.tup (vcol rows ls.length (as.idxOf b))) else H1 b := ⟨_, rfl⟩
  obtain ⟨H2, hH2⟩ := hH2
  have e1 : H2 (B + ls.length + 3) = some (.lst (as.map V.ref)) := by rw [hH2]; exact if_pos rfl
  have e2 : ∀ i a, as[i]? = some a → H2 a = some (.tup (vcol rows ls.length i)) := fun i a hi => by
    have hm := List.mem_of_getElem? hi
    have := hG.above a hm
    have ix : as.idxOf a = i := by
      obtain ⟨h1, h2⟩ := List.getElem?_eq_some_iff.mp hi
      rw [← h2]
      exact nd.idxOf_getElem i h1
    rw [hH2]
    dsimp only
    rw [if_neg (ane (by omega)), if_pos hm, ix]
  have e3 : ∀ b, b < B → H2 b = H1 b := fun b hb => by
    rw [hH2]
    dsimp only
    rw [if_neg (ane (by omega)), if_neg fun hm => by have := big b hm; omega]
  have sm : Same H1 H2 := fun b o e => by
    rcases Nat.lt_or_ge b B with hb | hb
    · rw [e3 b hb]
      exact e
    · rw [hn1 b hb] at e
      cases e
  have hnew : ∀ b o, B ≤ b → H2 b = some o → ObjOk X.prog X.w H2 h2 b o := fun b o hb e => by
    rw [hH2] at e
    dsimp only at e
    by_cases h1 : b = B + ls.length + 3
    · rw [if_pos h1] at e
      cases e
      rw [h1]
      have rl : Vals (as.map V.ref) acc.toList := by
        rw [hacc]
        exact vals_mapref as
      exact ⟨by rw [List.length_map, hl]; exact Evl.sz_of (by omega), acc.toList, c, rl, by rw [Array.toArray_toList]; exact hS⟩
    · rw [if_neg h1] at e
      by_cases h2' : b ∈ as
      · rw [if_pos h2'] at e
        cases e
        have hi : as[as.idxOf b]? = some b := by
          rw [List.getElem?_eq_getElem (List.idxOf_lt_length_of_mem h2'), List.getElem_idxOf]
        have ht := hG.cols _ _ hi
        have il : as.idxOf b < m := by rw [← hl]; exact (List.getElem?_eq_some_iff.mp hi).1
        have rc : Vals (vcol rows ls.length (as.idxOf b)) (zcol vs ls.length (as.idxOf b)) := vals_col (fun j hj => ⟨(hvs j _ (List.getElem?_eq_getElem hj)).1, (hrow j _ (List.getElem?_eq_getElem hj)).2⟩) il
        exact ⟨by unfold vcol; rw [List.length_map, List.length_range]; exact Evl.sz_of (by omega), _, rc, _, ht, rfl, _, rfl⟩
      · rw [if_neg h2', hn1 b hb] at e
        cases e
  have J : Inv X pins σ H2 { s2 with heap := h2, toks := tk } := inv_many I2 (fun b o e => kp2 b o (by rw [← hB]; exact Heap.lt_size e) (kp b o e)) (fun b hb => e3 b (by rw [← hB]; exact hb)) sm fun b o hb e => hnew b o (by rw [← hB]; exact hb) e
  exact ⟨.ref (B + ls.length + 3), H2, J, rfl, q H2 _ as sm hS1 e1 hl fun i a hi => ⟨hn1 a (big a (List.mem_of_getElem? hi)), e2 i a hi⟩⟩
end Bz

namespace Bz
open PySem PySem.Spec PyProof.Rows L2
/-! ### for x, y in zip(xs, ys): each a list or a tuple -/
/-- a list (false) or a tuple (true) -/
def SqK (k : Bool) (K : PySem.W.Frag) (H : Hp) (a : Addr) (xs : List V) : Prop := match k with | true => SqT K H a xs | false => SqL K H a xs
def IsS (k : Bool) (h : Heap) (a : Addr) (its : Array Value) : Prop := match k with | true => h.IsTuple a its | false => h.IsList a its
def ItAt (k : Bool) (h : Heap) (it a : Addr) (i : Nat) : Prop := match k with | true => h.IsTupleIter it a i | false => h.IsListIter it a i
def itO (k : Bool) (a : Addr) : Obj := match k with | true => { cls := .type "tuple_iterator", data := .fields #[.ref a, .int 0 0] } | false => { cls := .type "list_iterator", data := .fields #[.ref a, .int 0 0] }
theorem SqK.e {k : Bool} {K : PySem.W.Frag} {H : Hp} {a : Addr} {xs : List V} (h : SqK k K H a xs) : SqE K H a xs := by
  cases k
  · exact .inl h
  · exact .inr h
theorem SqE.k {K : PySem.W.Frag} {H : Hp} {a : Addr} {xs : List V} (h : SqE K H a xs) : ∃ k, SqK k K H a xs := h.elim (fun h => ⟨false, h⟩) fun h => ⟨true, h⟩
theorem SqK.same {k : Bool} {K : PySem.W.Frag} {H H' : Hp} {a : Addr} {xs : List V} (h : SqK k K H a xs) (e : Same H H') : SqK k K H' a xs := by
  cases k
  · exact e.seq h
  · exact sqt_same e h
theorem SqK.ins {k : Bool} {X : Cx} {pins : List (Addr × Obj)} {σ : L2.St} {H : Hp} {s : Shared} {a : Addr} {xs : List V} (h : SqK k X.K H a xs) (I : Inv X pins σ H s) : ∃ its : List Value, Vals xs its ∧ IsS k s.heap a its.toArray := by
  cases k
  · obtain ⟨its, r, p, _⟩ := I.list h
    exact ⟨its, r, p.isList⟩
  · obtain ⟨its, r, p, _⟩ := I.tuple h
    exact ⟨its, r, p⟩
theorem SqK.inj {k : Bool} {X : Cx} {pins : List (Addr × Obj)} {σ : L2.St} {H : Hp} {s : Shared} {a : Addr} {xs ys : List V} (I : Inv X pins σ H s) (h : SqK k X.K H a xs) (h' : SqK k X.K H a ys) : xs = ys := by
  cases k
  · exact I.list_inj h h'
  · exact I.tuple_inj h h'
theorem IsS.at {k : Bool} {h h' : Heap} {a : Addr} {its : Array Value} (x : IsS k h a its) (kp : ∀ o, h.get? a = some o → h'.get? a = some o) : IsS k h' a its := by
  cases k
  · exact Heap.IsList.at x kp
  · exact Heap.IsTuple.at x kp
theorem IsS.lt {k : Bool} {h : Heap} {a : Addr} {its : Array Value} (x : IsS k h a its) : a < h.objs.size := by
  cases k
  · obtain ⟨o, e, _⟩ := x; exact Heap.lt_size e
  · obtain ⟨o, e, _⟩ := x; exact Heap.lt_size e
theorem ItAt.obj {k : Bool} {h : Heap} {it a : Addr} {i : Nat} (x : ItAt k h it a i) : ∃ o, h.get? it = some o ∧ ∀ v, o.data ≠ .cell v := by
  cases k
  · obtain ⟨o, e, _, d⟩ := x; exact ⟨o, e, fun v q => by rw [d] at q; cases q⟩
  · obtain ⟨o, e, _, d⟩ := x; exact ⟨o, e, fun v q => by rw [d] at q; cases q⟩
theorem ItAt.at {k : Bool} {h h' : Heap} {it a : Addr} {i : Nat} (x : ItAt k h it a i) (kp : ∀ o, h.get? it = some o → h'.get? it = some o) : ItAt k h' it a i := by
  cases k
  · exact Heap.IsListIter.at x kp
  · exact Heap.IsTupleIter.at x kp
theorem drawsK {prog : Program} {w : World} {A : Around} (k : Bool) (hh : A.handled = none) (it l : Addr) (hne : l ≠ it) (items : Array Value) :
    Draws prog w A it [it, l] items.size (fun i v => items[i]? = some v) (fun i h => ItAt k h it l i ∧ IsS k h l items) := by
  cases k
  · exact Draws.list hh it l hne items
  · exact Draws.tuple hh it l hne items
theorem beginsK (k : Bool) (l : Addr) (items : Array Value) : Begins (.ref l) (itO k l) fun h => IsS k h l items := by
  cases k
  · exact begins_list l items
  · exact begins_tuple l items
theorem itO_at {k : Bool} {h : Heap} {it a : Addr} (e : h.get? it = some (itO k a)) : ItAt k h it a 0 := by
  cases k
  · exact ⟨_, e, rfl, rfl⟩
  · exact ⟨_, e, rfl, rfl⟩
def ItzE (k1 k2 : Bool) (K : PySem.W.Frag) (a b : Addr) : It :=
  ⟨fun i H => ∃ (xs ys : List V) (x y : V), SqK k1 K H a xs ∧ SqK k2 K H b ys ∧ xs[i]? = some x ∧ ys[i]? = some y,
    fun i H v H' => ∃ T x y, v = .ref T ∧ H T = none ∧ H' = upd H T (.tup [x, y]) ∧ (∀ xs, SqK k1 K H a xs → xs[i]? = some x) ∧ ∀ ys, SqK k2 K H b ys → ys[i]? = some y,
    fun i H => ∃ xs ys : List V, SqK k1 K H a xs ∧ SqK k2 K H b ys ∧ xs.length = i ∧ ys.length = i⟩
theorem turn_zipE {P : Program} {w : World} {K : PySem.W.Frag} {elts : List Expr} {kk : Nat} {tpos : Pos} {k1 k2 : Bool} {a b z TI TO i1 i2 : Addr} (D : ZipSep2 z TI TO i1 i2 [i1, a] [i2, b]) (ha : a ≠ i1) (hb : b ≠ i2) :
    Turn P w K (.Tuple elts kk tpos) (ItzE k1 k2 K a b) [z, TI, TO, i1, i2] z (fun i h => IsZip h z TI TO .none ∧ IsTupOf2 h TI (.ref i1) (.ref i2) ∧ (∃ x y, IsTupOf2 h TO x y) ∧ ItAt k1 h i1 a i ∧ ItAt k2 h i2 b i) where
  mem := by simp
  obj := fun i h st c hc => by
    obtain ⟨hz, hTI, ⟨x, y, hTO⟩, h1, h2⟩ := st
    have e' : c = z ∨ c = TI ∨ c = TO ∨ c = i1 ∨ c = i2 := by simpa using hc
    rcases e' with q | q | q | q | q
    · rw [q]; exact ⟨_, hz, fun v q => nomatch q⟩
    · rw [q]; exact ⟨_, hTI, fun v q => nomatch q⟩
    · rw [q]; exact ⟨_, hTO, fun v q => nomatch q⟩
    · rw [q]; exact h1.obj
    · rw [q]; exact h2.obj
  keep := fun i h h' st k => by
    obtain ⟨hz, hTI, ⟨x, y, hTO⟩, h1, h2⟩ := st
    exact ⟨k z (by simp) _ hz, k TI (by simp) _ hTI, ⟨x, y, k TO (by simp) _ hTO⟩, h1.at fun o q => k i1 (by simp) o q, h2.at fun o q => k i2 (by simp) o q⟩
  item := by
    intro X hP hw hK hc i pins s σ H E I hf st hg
    subst hP hw hK
    obtain ⟨hz, hTI, ⟨x0, y0, hTO⟩, h1, h2⟩ := st
    obtain ⟨xs, ys, x, y, hqx, hqy, hx, hy⟩ := hg
    obtain ⟨its, rv, p⟩ := hqx.ins I
    obtain ⟨its2, rv2, p2⟩ := hqy.ins I
    obtain ⟨u, hu, ru⟩ := rv.get hx
    obtain ⟨u2, hu2, ru2⟩ := rv2.get hy
    have hzl : z < s.heap.objs.size := Heap.lt_size hz
    have D1 := drawsK (prog := X.prog) (w := X.w) (A := X.A.in1) k1 (I.ok.hd hc) i1 a ha its.toArray
    have D2 := drawsK (prog := X.prog) (w := X.w) (A := X.A.in1) k2 (I.ok.hd hc) i2 b hb its2.toArray
    have n1 : i < its.toArray.size := by rw [List.size_toArray]; exact (List.getElem?_eq_some_iff.mp hu).1
    have n2 : i < its2.toArray.size := by rw [List.size_toArray]; exact (List.getElem?_eq_some_iff.mp hu2).1
    refine wpAny_pyNext_zipD2_item D D1 D2 hz hTI hTO ⟨h1, p⟩ ⟨h2, p2⟩ n1 n2 fun v1 v2 h' tk q1 q2 z' TO' st1 st2 hT hsz hk => ?_
    have e1 : v1 = u := by
      have : its[i]? = some v1 := by simpa using q1
      rw [hu] at this
      exact (Option.some.inj this).symm
    have e2 : v2 = u2 := by
      have : its2[i]? = some v2 := by simpa using q2
      rw [hu2] at this
      exact (Option.some.inj this).symm
    subst e1 e2
    refine ⟨_, rfl, wpAny_letOwnedTupleGo_zip (s := { s with heap := h', toks := tk }) z' fun h'' z'' sb => ?_⟩
    have hT2 : h''.get? s.heap.objs.size = some { cls := .type "tuple", data := .seq #[v1, v2] } := (sb.2 _ (Nat.ne_of_gt hzl)).trans hT
    have new : ObjOk X.prog X.w (upd H s.heap.objs.size (.tup [x, y])) h'' s.heap.objs.size (.tup [x, y]) :=
      ⟨by show 2 ≤ sizeLine; decide, [v1, v2], .cons ru (.cons ru2 .nil), ⟨_, hT2, rfl, _, rfl⟩⟩
    have I1 : Inv X pins σ (upd H s.heap.objs.size (.tup [x, y])) { s with heap := h'', toks := tk } :=
      I.turnedNew (t' := tk) (ch := [z, TI, TO, i1, i2]) (fun c o hb q => (sb.2 c (fun q' => hb (by simp [q']))).trans (hk c o (fun q' => hb (by simp [q'])) (fun q' => hb (by simp [q'])) (fun q' => hb (by simp [q'])) (fun q' => hb (by simp [q'])) q)) hf (Nat.le_refl _) new
    refine ⟨.ref s.heap.objs.size, _, I1, rfl, ⟨_, x, y, rfl, I.hok.fresh (Nat.le_refl _), rfl, fun l hl => by rw [SqK.inj I hl hqx]; exact hx, fun l hl => by rw [SqK.inj I hl hqy]; exact hy⟩, ⟨z'', ?_, ⟨v1, v2, ?_⟩, ?_, ?_⟩, fun c hcm => ?_⟩
    · exact (sb.2 _ D.TIz).trans (hk _ _ D.TIz D.TITO D.TIi1 D.TIi2 hTI)
    · exact (sb.2 _ D.TOz).trans TO'
    · exact st1.1.at fun o q => (sb.2 _ (Ne.symm D.zi1)).trans q
    · exact st2.1.at fun o q => (sb.2 _ (Ne.symm D.zi2)).trans q
    · have hlt : c < s.heap.objs.size := by
        have e' : c = z ∨ c = TI ∨ c = TO ∨ c = i1 ∨ c = i2 := by simpa using hcm
        rcases e' with q | q | q | q | q
        · rw [q]; exact hzl
        · rw [q]; exact Heap.lt_size hTI
        · rw [q]; exact Heap.lt_size hTO
        · rw [q]; obtain ⟨_, e1, _⟩ := h1.obj; exact Heap.lt_size e1
        · rw [q]; obtain ⟨_, e2, _⟩ := h2.obj; exact Heap.lt_size e2
      rw [upd_ne (Nat.ne_of_lt hlt)]
      exact (hf c hcm).1
  done := by
    intro X hP hw hK hc i pins s σ H E I hf st hg
    subst hP hw hK
    obtain ⟨hz, hTI, ⟨x0, y0, hTO⟩, h1, h2⟩ := st
    obtain ⟨xs, ys, hqx, hqy, l1, l2⟩ := hg
    obtain ⟨its, rv, p⟩ := hqx.ins I
    obtain ⟨its2, rv2, p2⟩ := hqy.ins I
    have m1 := rv.length
    have m2 := rv2.length
    have D1 := drawsK (prog := X.prog) (w := X.w) (A := X.A.in1) k1 (I.ok.hd hc) i1 a ha its.toArray
    have D2 := drawsK (prog := X.prog) (w := X.w) (A := X.A.in1) k2 (I.ok.hd hc) i2 b hb its2.toArray
    refine wpAny_pyNext_zipD2_end D D1 D2 hz hTI hTO ⟨h1, p⟩ ⟨h2, p2⟩ (by rw [List.size_toArray]; omega) (by rw [List.size_toArray]; omega) (.inl (by rw [List.size_toArray]; omega)) fun h' tk hk => ⟨rfl, I.turnedL (t' := tk) (ch := [z, TI, TO, i1, i2]) (fun c o hb q =>
      hk c o (fun q' => hb (by simp [q'])) (fun q' => hb (by simp [q'])) (fun q' => hb (by simp [q'])) (fun q' => hb (by simp [q'])) q) hf⟩
  self := fun A i s Q E st h => wpAny_pyIter_zip st.1 h
def iZipE (K : PySem.W.Frag) (ta : TA) : TI := fun σ H R => ta σ H fun vs H1 => ∃ k1 k2 a b xs ys, vs = [V.ref a, V.ref b] ∧ SqK k1 K H1 a xs ∧ SqK k2 K H1 b ys ∧ R (ItzE k1 k2 K a b) H1
theorem pi_zipE {X : Cx} {e e2 : Expr} {ta : TA} {p pos tpos : Pos} {elts : List Expr} {kk : Nat} (hg : Gl X "zip") (hm : X.mg "zip" = none) (ha : PA X [e, e2] ta)
    (hs : starEach [e, e2] X.env = (false, eval e X.env) :: starEach [e2] X.env := by rfl) (hpl : (backTo pos (starEach [e2] X.env)).any (·.1) = false := by rfl) :
    PI X (.Tuple elts kk tpos) (.Call (.Name "zip" p) [e, e2] [] pos) (iZipE X.K ta) := by
  refine ⟨fun pins s σ H R I h => ?_⟩
  refine Call_ (ld_blt I hg hm PyProof.Rows.boot_zip (PyProof.Rows.callWith_type1 (thn (ha.run pos pins s σ H _ I h) fun us s1 ⟨vs, H1, I1, r1, q1⟩ => ?_) hs hpl))
  obtain ⟨k1, k2, a, b, xs, ys, ex, hqx, hqy, q⟩ := q1
  subst ex
  cases r1 with
  | cons r rr =>
    cases rr with
    | cons r' rr =>
      cases rr
      cases r
      cases r'
      obtain ⟨its, rv, p1⟩ := hqx.ins I1
      obtain ⟨its2, rv2, p2⟩ := hqy.ins I1
      have la : (a : Nat) < s1.heap.objs.size := p1.lt
      have lb : (b : Nat) < s1.heap.objs.size := p2.lt
      refine zip_begins2 (beginsK k1 a its.toArray) (beginsK k2 b its2.toArray) p1 p2 fun h' hz hTI hTO h1 h2 hsz hk => wpAny_pyIter_zip hz ?_
      have I2 : Inv X pins σ H1 { s1 with heap := h' } := I1.kept (t' := s1.toks) hk
      have sep : ZipSep2 (s1.heap.objs.size + 4) (s1.heap.objs.size + 2) (s1.heap.objs.size + 3) s1.heap.objs.size (s1.heap.objs.size + 1) [s1.heap.objs.size, a] [s1.heap.objs.size + 1, b] := by
        constructor <;> first
          | exact ane (by omega)
          | (simp; done)
          | (intro q; exact (List.mem_cons.mp q).elim (fun q => absurd q (ane (by omega))) (fun q => Nat.lt_irrefl _ (Nat.lt_of_le_of_lt (Nat.le_trans (Nat.le_add_right _ _) (Nat.le_of_eq (List.mem_singleton.mp q))) la)))
          | (intro q; exact (List.mem_cons.mp q).elim (fun q => absurd q (ane (by omega))) (fun q => Nat.lt_irrefl _ (Nat.lt_of_le_of_lt (Nat.le_trans (Nat.le_add_right _ _) (Nat.le_of_eq (List.mem_singleton.mp q))) lb)))
          | (intro q; exact (List.mem_cons.mp q).elim (fun q => absurd q (ane (by omega))) (fun q => Nat.lt_irrefl _ (Nat.lt_of_le_of_lt (Nat.le_of_eq (List.mem_singleton.mp q)) lb)))
      refine ⟨s1.heap.objs.size + 4, [s1.heap.objs.size + 4, s1.heap.objs.size + 2, s1.heap.objs.size + 3, s1.heap.objs.size, s1.heap.objs.size + 1], _, _, H1, rfl, I2, turn_zipE sep (Nat.ne_of_lt la) (Nat.ne_of_lt (Nat.lt_succ_of_lt lb)), ⟨hz, hTI, ⟨_, _, hTO⟩, itO_at h1, itO_at h2⟩, fun c hcm => ?_, q⟩
      have e' : c = s1.heap.objs.size + 4 ∨ c = s1.heap.objs.size + 2 ∨ c = s1.heap.objs.size + 3 ∨ c = s1.heap.objs.size ∨ c = s1.heap.objs.size + 1 := by simpa using hcm
      have hle : s1.heap.objs.size ≤ c := by
        rcases e' with z | z | z | z | z
        · rw [z]; exact Nat.le_add_right _ _
        · rw [z]; exact Nat.le_add_right _ _
        · rw [z]; exact Nat.le_add_right _ _
        · rw [z]; exact Nat.le_refl _
        · rw [z]; exact Nat.le_add_right _ _
      exact I1.fpOk hle (I1.hok.fresh hle)
theorem kpi_zipE (K : PySem.W.Frag) {X : Cx} {e e2 : Expr} {ta : TA} {p pos tpos : Pos} {elts : List Expr} {kk : Nat} (hg : Gl X "zip") (hm : X.mg "zip" = none) (ha : PA X [e, e2] ta)
    (hs : starEach [e, e2] X.env = (false, eval e X.env) :: starEach [e2] X.env := by rfl) (hpl : (backTo pos (starEach [e2] X.env)).any (·.1) = false := by rfl) (h : X.K = K := by rfl) :
    PI X (.Tuple elts kk tpos) (.Call (.Name "zip" p) [e, e2] [] pos) (iZipE K ta) := by
  subst h
  exact pi_zipE hg hm ha hs hpl
theorem walk_zipE {K : PySem.W.Frag} {k1 k2 : Bool} {a b : Addr} {xs ys : List V} {n : Nat} (h1 : xs.length = n) (h2 : ys.length = n) : Walk (ItzE k1 k2 K a b) n (fun H => SqK k1 K H a xs ∧ SqK k2 K H b ys) (fun i H v H' => ∃ T x y, v = .ref T ∧ H T = none ∧ H' = upd H T (.tup [x, y]) ∧ xs[i]? = some x ∧ ys[i]? = some y) := by
  refine ⟨fun i _ hi q => ?_, fun _ q => ⟨xs, ys, q.1, q.2, h1, h2⟩, fun i H v H' _ q y => ?_⟩
  · have h3 : i < xs.length := by omega
    have h4 : i < ys.length := by omega
    exact ⟨xs, ys, xs[i], ys[i], q.1, q.2, by simp [h3], by simp [h4]⟩
  · obtain ⟨T, x, z, h1, h2, h3, h4, h5⟩ := y
    exact ⟨T, x, z, h1, h2, h3, h4 xs q.1, h5 ys q.2⟩
end Bz

namespace Bz
open PySem PySem.Spec PyProof.Rows L2
/-! ### rules: either of two; sorted(list or tuple of texts); len(set); tuples of the top -/
def tAlt (a b : TE) : TE := fun σ H Q => a σ H Q ∨ b σ H Q
theorem pe_alt {X : Cx} {e : Expr} {a b : TE} (ha : PE X e a) (hb : PE X e b) : PE X e (tAlt a b) :=
  ⟨fun pins s σ H Q I h => h.elim (fun h => ha.run pins s σ H Q I h) (fun h => hb.run pins s σ H Q I h)⟩
theorem pe_tupG {X : Cx} {x : PySem.Str} {C : Addr} {pos : Pos} (hm : X.mg x = some (.ref C)) (hg : Gl X x := by rfl) (hdb : (x == ("__debug__" : PySem.Str)) = false := by decide) : PE X (.Name x pos) (tC (.ref C)) := pe_glob hg hm rfl hdb
def rIxE (K : PySem.W.Frag) : R2 := fun x y H Q => rIx K x y H Q
theorem kix_seq (K : PySem.W.Frag) {X : Cx} (h : X.K = K := by rfl) : IxR X (rIxE K) := by subst h; exact ix_seq
theorem kmt_index (K : PySem.W.Frag) {X : Cx} (h : X.K = K := by rfl) : MtR X "list.index" (rIndex K) := by subst h; exact mt_index
theorem kpe_listZip (K : PySem.W.Frag) {X : Cx} {e : Expr} {te : TE} {p p2 p3 pos pos2 : Pos} (hh : X.calm = true) (hg : Gl X "list") (hm : X.mg "list" = none) (hgz : Gl X "zip") (hmz : X.mg "zip" = none) (he : PE X e te)
    (hs : starEach [.Call (.Name "zip" p2) [.Starred e p3] [] pos2] X.env = (false, eval (.Call (.Name "zip" p2) [.Starred e p3] [] pos2) X.env) :: starEach [] X.env := by rfl)
    (hst : starEach [.Starred e p3] X.env = [(true, eval e X.env)] := by rfl)
    (hev : eval (.Call (.Name "zip" p2) [.Starred e p3] [] pos2) X.env = (do callWith pos2 (← eval (.Name "zip" p2) X.env) [] (backTo pos2 (starEach [.Starred e p3] X.env)) (backToKw pos2 (keywordEach [] X.env))) := by rfl) (h : X.K = K := by rfl) :
    PE X (.Call (.Name "list" p) [.Call (.Name "zip" p2) [.Starred e p3] [] pos2] [] pos) (tListZip K te) := by
  subst h
  exact pe_listZip hh hg hm hgz hmz he hs hst hev
def rSortedE (K : PySem.W.Frag) : List V → Hp → VK → Prop := fun vs H Q => ∃ (a : Addr) (xs : List PySem.Str), vs = [V.ref a] ∧ SqE K H a (xs.map V.str) ∧ xs.length ≤ 4000 ∧
  ∀ (ys : List PySem.Str) (p : Addr), ys.Perm xs → (ys.Pairwise fun x y => ¬ y.cps.toList < x.cps.toList) → H p = none → Q (.ref p) (upd H p (.lst (ys.map V.str)))
/-- sorted(x), x a list or a tuple of texts -/
theorem cr_sortedE {X : Cx} : CallR X (.builtin "sorted") (rSortedE X.K) := by
  intro pins s σ H vs us Q I r h
  obtain ⟨a, xs, rfl, hq, hx, q⟩ := h
  rw [Vals.ref1 r]
  have hob : ∃ (T : String) (o : Obj) (its : List Value) (n : Nat), (T = "list" ∨ T = "tuple") ∧ s.heap.get? a = some o ∧ o.cls = .type T ∧ o.data = .seq its.toArray n ∧ Vals (xs.map V.str) its := by
    rcases hq with hq | hq
    · obtain ⟨its, rv, pl, hz⟩ := I.list hq
      obtain ⟨o, n, e1, e2, _, e4⟩ := pl
      exact ⟨_, o, its, n, .inl rfl, e1, e2, e4, rv⟩
    · obtain ⟨its, rv, pl, hz⟩ := I.tuple hq
      obtain ⟨o, e1, e2, n, e4⟩ := pl
      exact ⟨_, o, its, n, .inr rfl, e1, e2, e4, rv⟩
  obtain ⟨T, o, its, n, hT, ho, hc, hd, rv⟩ := hob
  have hS : StrsAre its xs := rv.strs
  have hl : its.length = xs.length := StrsAre.len_eq hS
  have hvs : its.length ≤ sizeLine := Evl.sz_of (by omega)
  refine Calls.call_function_entry kind_sorted plain_sorted entry_sorted (args_sorted1 _) ?_
  unfold Builtin.«sorted»
  refine wpAny_bind (m := checkCount "sorted" 1 1 _) (wpAny_pure ?_)
  refine wpAny_bind (wpAny_collect_seq (A := X.A.in1) a hT ho hc hd (fun h' k1 => ?_) (by rw [List.size_toArray]; exact hvs))
  rw [List.toList_toArray]
  have I1 : Inv X pins σ H { s with heap := h' } := I.kept (t' := s.toks) k1
  refine wpAny_bind (wpAny_newList ?_ hvs)
  have hoL : (h'.push (seqObj "list" its.toArray 0)).get? h'.objs.size = some (seqObj "list" its.toArray 0) := Heap.get?_push_size _ rfl
  refine wpAny_bind (wpAny_holding (wpAny_call_entry slot_list_sort ⟨_, hoL, rfl⟩ entry_list_sort (SrtO.list_sort_ord ltV_swo hoL hvs (fun h2 => strs_sortable hS h2) fun out a1 a2 => ⟨_, rfl, ?_⟩) (args_list_sort _)))
  obtain ⟨q1, q2, q3⟩ := strs_out hS a1 a2
  obtain ⟨c, hcc⟩ := sortedHeap_at (vs := its) (out := out.toArray) hoL
  refine wpAny_pure ⟨_, rfl, ?_⟩
  have hlen : ((out.map strOf).map V.str).length ≤ sizeLine := by
    rw [List.length_map, q2.length_eq]
    exact Evl.sz_of (by omega)
  have kp : ∀ b u, h'.get? b = some u → (sortedHeap (h'.push (seqObj "list" its.toArray 0)) h'.objs.size its out.toArray).get? b = some u := fun b u e => by
    have hlt := Heap.lt_size e
    rw [sortedHeap_old (Nat.ne_of_lt hlt) (by rw [size_push']; exact Nat.lt_succ_of_lt hlt)]
    exact Heap.get?_push_of_some _ e
  have J := I1.laid (t' := s.toks) (a := h'.objs.size) (o := .lst ((out.map strOf).map V.str)) kp (Nat.le_refl _) ⟨hlen, out, c, vals_of_strs q1, hcc⟩
  exact ⟨.ref h'.objs.size, _, J, rfl, q _ _ q2 q3 (I1.hok.fresh (Nat.le_refl _))⟩
theorem ksortedE (K : PySem.W.Frag) {X : Cx} (h : X.K = K := by rfl) : CallR X (.builtin "sorted") (rSortedE K) := by subst h; exact cr_sortedE
/-- len(x), x a set of texts -/
def rLenSO (P : Program) (w : World) : List V → Hp → VK → Prop := fun xs H Q => ∃ (a : Addr) (M : PySem.Str → Prop) (b : Nat), xs = [.ref a] ∧ H a = some (SetSO P w a M b) ∧
  ∀ ys : List PySem.Str, ys.Nodup → (∀ k, k ∈ ys ↔ M k) → Q (.int (ys.length : Nat)) H
theorem call_lenSO {X : Cx} : CallR X (.builtin "len") (rLenSO X.prog X.w) := by
  intro pins s σ H xs us Q I r h
  obtain ⟨a, M, b, rfl, ha, q⟩ := h
  rw [Vals.ref1 r]
  obtain ⟨⟨es, ep, t, R⟩, _, _⟩ := I.hok a _ ha
  obtain ⟨⟨o, ho, hex, hd⟩, hel, nd, hm, hsz, hb, hf, hr, hl⟩ := R
  have hbb : scanBound = 4096 := rfl
  refine call_len_set ho hex hd hf (by omega) ⟨.int es.size, H, I.tok _, ⟨_, rfl⟩, ?_⟩
  have q' := q (es.toList.map skey) nd fun k => (hm k).symm
  rw [List.length_map, Array.length_toList] at q'
  exact q'
/-- min(x, default=k), x whole numbers -/
def tMinDI (K : PySem.W.Frag) (te td : TE) : TE := fun σ H Q => te σ H fun v H1 => td σ H1 fun d H2 => H2 = H1 ∧ ∃ (l : Addr) (ns : List Int), v = .ref l ∧ SqL K H1 l (ns.map V.int) ∧ ∀ z : V, ((ns = [] ∧ z = d) ∨ ∃ m, z = .int m ∧ m ∈ ns ∧ ∀ n ∈ ns, m ≤ n) → Q z H1
theorem pe_minDI (K : PySem.W.Frag) {X : Cx} {e d : Expr} {te td : TE} {p pos kpos : Pos} (hc : X.calm = true) (hu : X.A.units + 64 < cLine) (hg : Gl X "min") (hm : X.mg "min" = none) (he : PE X e te) (hd : PE X d td) (hs : starEach [e] X.env = [(false, eval e X.env)] := by rfl) (hK : X.K = K := by rfl) :
    PE X (.Call (.Name "min" p) [e] [⟨some "default", d, kpos⟩] pos) (tMinDI K te td) := by
  subst hK
  refine ⟨fun pins s σ H Q I h => ?_⟩
  refine wpAny_Call_Name_kw (ld_blt I hg hm boot_min ?_)
  rw [hs]
  show wpAny _ _ (callWith pos (Value.builtin "min") [] [(false, eval e X.env)] [(some "default", do let v ← eval d X.env; standAt pos; pure v)]) _ _ _
  refine callB_kw (thn (he.run pins s σ H _ I h) fun u s1 ⟨v, H1, I1, r1, q1⟩ => ?_)
  refine wpAny_bind (thn (hd.run pins s1 σ H1 _ I1 q1) fun ud s2 ⟨dv, H2, I2, rd, eH, l, ns, ev, hq, q⟩ => wpAny_bind (wpAny_standAt (wpAny_pure ?_)))
  subst eH
  subst ev
  obtain rfl : u = Value.ref l := r1
  obtain ⟨its, rv, pl, hz⟩ := I2.list hq
  obtain ⟨as, ra⟩ := Dp.readsAll I2 _ _ _ (dp_ints ns) rv
  refine PySem.W.min_list_datum_default (α := Int) (xs := ns) (I2.ok.hd hc) pl.isList ⟨as, by
    have e : its.toArray.toList = its := by simp
    rw [e]
    exact ra⟩ (by show X.A.units + 1 + 0 < cLine; omega) (fun e0 h' tk k => ?_) (fun y ys i v h' tk e1 hi hh k => ?_)
  · exact ⟨dv, H2, I2.kept k, rd, q dv (.inl ⟨e0, rfl⟩)⟩
  · subst e1
    obtain ⟨as', r'⟩ := hh
    have ht : ∃ t, v = Value.int (PySem.W.minOf y ys) t := by
      have r2 : Reads h' v (.int (PySem.W.minOf y ys)) as' := r'
      cases r2
      exact ⟨_, rfl⟩
    obtain ⟨t, rfl⟩ := ht
    exact ⟨.int _, H2, I2.kept k, ⟨t, rfl⟩, q _ (.inr ⟨_, rfl, (minOf_is y ys).1, fun n hn => (minOf_is y ys).2 n hn⟩)⟩
end Bz

namespace Bz
open PySem PySem.Spec PyProof.Rows L2
/-! ### tallies: the mathematics -/
def mkW : List PySem.Str := ["free", "some", "many", "never"]
def mkS (k : Nat) : PySem.Str := mkW.getD k "never"
/-- the least of some ranks -/
def lowN (l : List Nat) : Nat := l.foldr min 3
theorem lowN_le {l : List Nat} {r : Nat} : lowN l ≤ r ↔ 3 ≤ r ∨ ∃ x ∈ l, x ≤ r := by
  induction l with
  | nil => simp [lowN]
  | cons x l ih =>
    show min x (lowN l) ≤ r ↔ _
    have mn : min x (lowN l) ≤ r ↔ x ≤ r ∨ lowN l ≤ r := by omega
    rw [mn, ih]
    simp only [List.mem_cons, exists_eq_or_imp]
    constructor
    · rintro (h | h | h)
      · exact .inr (.inl h)
      · exact .inl h
      · exact .inr (.inr h)
    · rintro (h | h | h)
      · exact .inr (.inl h)
      · exact .inl h
      · exact .inr (.inr h)
theorem lowN_3 (l : List Nat) : lowN l ≤ 3 := lowN_le.mpr (.inl (Nat.le_refl _))
theorem lowN_of {l : List Nat} {m : Nat} (h1 : m ∈ l) (h2 : ∀ y ∈ l, m ≤ y) (h3 : m ≤ 3) : lowN l = m := by
  refine Nat.le_antisymm (lowN_le.mpr (.inr ⟨m, h1, Nat.le_refl _⟩)) (Nat.le_of_not_lt fun h => ?_)
  rcases lowN_le.mp (show lowN l ≤ m - 1 by omega) with q | ⟨x, hx, q⟩
  · omega
  · have := h2 x hx
    omega
theorem eq_of_le {a b : Nat} (h : ∀ r, a ≤ r ↔ b ≤ r) : a = b := Nat.le_antisymm ((h b).mpr (Nat.le_refl _)) ((h a).mp (Nat.le_refl _))
abbrev Rk := List (List Nat)
def ent (R : Rk) (i j : Nat) : Nat := (R.getD i []).getD j 3
structure Sq4 (n : Nat) (R : Rk) : Prop where
  len : R.length = n
  row : ∀ r ∈ R, r.length = n ∧ ∀ k ∈ r, k ≤ 3
def mkR (n : Nat) (f : Nat → Nat → Nat) : Rk := (List.range n).map fun i => (List.range n).map fun j => f i j
theorem ent_mk {n i j : Nat} {f : Nat → Nat → Nat} (hi : i < n) (hj : j < n) : ent (mkR n f) i j = f i j := by
  unfold ent mkR
  simp [List.getD_eq_getElem?_getD, hi, hj]
theorem sq_mk {n : Nat} {f : Nat → Nat → Nat} (h : ∀ i j, f i j ≤ 3) : Sq4 n (mkR n f) := by
  refine ⟨by simp [mkR], fun r hr => ?_⟩
  obtain ⟨i, _, rfl⟩ := List.mem_map.mp hr
  refine ⟨by simp, fun k hk => ?_⟩
  obtain ⟨j, _, rfl⟩ := List.mem_map.mp hk
  exact h i j
theorem Sq4.ent {n : Nat} {R : Rk} (h : Sq4 n R) (i j : Nat) : Bz.ent R i j ≤ 3 := by
  unfold Bz.ent
  rw [List.getD_eq_getElem?_getD, List.getD_eq_getElem?_getD]
  cases e : R[i]? with
  | none => simp
  | some r =>
    simp only [Option.getD_some]
    cases e2 : r[j]? with
    | none => simp
    | some k =>
      simp only [Option.getD_some]
      exact (h.row r (List.mem_of_getElem? e)).2 k (List.mem_of_getElem? e2)
theorem Sq4.mk_eq {n : Nat} {R : Rk} (h : Sq4 n R) : mkR n (Bz.ent R) = R := by
  refine List.ext_getElem? fun i => ?_
  unfold mkR
  rw [List.getElem?_map]
  rcases Nat.lt_or_ge i n with hi | hi
  · have hl : i < R.length := by rw [h.len]; exact hi
    rw [List.getElem?_range hi, List.getElem?_eq_getElem hl]
    simp only [Option.map_some, Option.some.injEq]
    have hr := h.row _ (List.getElem_mem hl)
    refine List.ext_getElem? fun j => ?_
    rw [List.getElem?_map]
    rcases Nat.lt_or_ge j n with hj | hj
    · have hj2 : j < R[i].length := by rw [hr.1]; exact hj
      rw [List.getElem?_range hj, List.getElem?_eq_getElem hj2]
      simp only [Option.map_some, Option.some.injEq]
      unfold Bz.ent
      simp [List.getD_eq_getElem?_getD, List.getElem?_eq_getElem hl, List.getElem?_eq_getElem hj2]
    · rw [List.getElem?_eq_none (by simpa using hj), List.getElem?_eq_none (by omega)]
      rfl
  · rw [List.getElem?_eq_none (by simpa using hi), List.getElem?_eq_none (by rw [h.len]; exact hi)]
    rfl
theorem mkR_congr {n : Nat} {f g : Nat → Nat → Nat} (h : ∀ i j, i < n → j < n → f i j = g i j) : mkR n f = mkR n g := by
  unfold mkR
  refine List.map_congr_left fun i hi => List.map_congr_left fun j hj => h i j (List.mem_range.mp hi) (List.mem_range.mp hj)
theorem Sq4.ext {n : Nat} {A B : Rk} (ha : Sq4 n A) (hb : Sq4 n B) (h : ∀ i j, i < n → j < n → Bz.ent A i j = Bz.ent B i j) : A = B := by
  rw [← ha.mk_eq, ← hb.mk_eq]
  exact mkR_congr h
def rowN (n : Nat) (f : Nat → Nat) : List Nat := (List.range n).map f
theorem lowN_row {n r : Nat} {f : Nat → Nat} : lowN (rowN n f) ≤ r ↔ 3 ≤ r ∨ ∃ k, k < n ∧ f k ≤ r := by
  rw [lowN_le]
  unfold rowN
  constructor
  · rintro (h | ⟨x, hx, h⟩)
    · exact .inl h
    · obtain ⟨k, hk, rfl⟩ := List.mem_map.mp hx
      exact .inr ⟨k, List.mem_range.mp hk, h⟩
  · rintro (h | ⟨k, hk, h⟩)
    · exact .inl h
    · exact .inr ⟨_, List.mem_map.mpr ⟨k, List.mem_range.mpr hk, rfl⟩, h⟩
/-- one put behind the other -/
def putE (n : Nat) (A B : Rk) (i j : Nat) : Nat := lowN (rowN n fun k => max (ent A i k) (ent B k j))
def putR (n : Nat) (A B : Rk) : Rk := mkR n (putE n A B)
theorem putE_le {n r i j : Nat} {A B : Rk} : putE n A B i j ≤ r ↔ 3 ≤ r ∨ ∃ k, k < n ∧ ent A i k ≤ r ∧ ent B k j ≤ r := by
  unfold putE
  rw [lowN_row]
  simp only [Nat.max_le]
theorem put_sq (n : Nat) (A B : Rk) : Sq4 n (putR n A B) := sq_mk fun i j => lowN_3 _
theorem put_assoc {n : Nat} (A B C : Rk) : putR n (putR n A B) C = putR n A (putR n B C) := by
  refine (put_sq n _ _).ext (put_sq n _ _) fun i j hi hj => ?_
  unfold putR
  rw [ent_mk hi hj, ent_mk hi hj]
  refine eq_of_le fun r => ?_
  rw [putE_le, putE_le]
  constructor
  · rintro (h | ⟨k, hk, h1, h2⟩)
    · exact .inl h
    · rw [ent_mk hi hk, putE_le] at h1
      rcases h1 with h1 | ⟨l, hl, a, b⟩
      · exact .inl h1
      · refine .inr ⟨l, hl, a, ?_⟩
        rw [ent_mk hl hj, putE_le]
        exact .inr ⟨k, hk, b, h2⟩
  · rintro (h | ⟨k, hk, h1, h2⟩)
    · exact .inl h
    · rw [ent_mk hk hj, putE_le] at h2
      rcases h2 with h2 | ⟨l, hl, a, b⟩
      · exact .inl h2
      · refine .inr ⟨l, hl, ?_, b⟩
        rw [ent_mk hi hl, putE_le]
        exact .inr ⟨k, hk, h1, a⟩
/-! ### as data -/
def dI (r : List Nat) : PyData := .tuple (r.map fun n => .int (n : Nat))
def dS (r : List PySem.Str) : PyData := .tuple (r.map .str)
def dRk (R : Rk) : PyData := .tuple (R.map dI)
def dMk (M : List (List PySem.Str)) : PyData := .tuple (M.map dS)
theorem eqvAll_map {α : Type} [DecidableEq α] {f : α → PyData} (h : ∀ x y, PyData.eqv (f x) (f y) = decide (x = y)) : ∀ xs ys : List α, PyData.eqvAll (xs.map f) (ys.map f) = decide (xs = ys)
  | [], [] => by simp [PyData.eqvAll]
  | [], y :: ys => by simp [PyData.eqvAll]
  | x :: xs, [] => by simp [PyData.eqvAll]
  | x :: xs, y :: ys => by
    simp only [List.map_cons, PyData.eqvAll, h x y, eqvAll_map h xs ys]
    rw [Bool.eq_iff_iff]
    simp
theorem eqv_dI (a b : List Nat) : PyData.eqv (dI a) (dI b) = decide (a = b) := by
  unfold dI
  simp only [PyData.eqv]
  refine eqvAll_map (fun x y => ?_) a b
  simp only [PyData.eqv]
  rw [Bool.eq_iff_iff, beq_iff_eq, decide_eq_true_eq]
  exact Int.ofNat_inj
theorem eqv_dS (a b : List PySem.Str) : PyData.eqv (dS a) (dS b) = decide (a = b) := by
  unfold dS
  simp only [PyData.eqv]
  refine eqvAll_map (fun x y => ?_) a b
  simp only [PyData.eqv]
  rw [Bool.eq_iff_iff]
  simp
theorem eqv_dRk (a b : Rk) : PyData.eqv (dRk a) (dRk b) = decide (a = b) := by
  unfold dRk
  simp only [PyData.eqv]
  exact eqvAll_map eqv_dI a b
theorem eqv_dMk (a b : List (List PySem.Str)) : PyData.eqv (dMk a) (dMk b) = decide (a = b) := by
  unfold dMk
  simp only [PyData.eqv]
  exact eqvAll_map eqv_dS a b
theorem lay_dI (r : List Nat) : PyData.canLay0 (dI r) = true ∧ PyData.depth (dI r) ≤ 2 := by
  have q : ∀ r : List Nat, PyData.canLayAll0 (r.map fun n => PyData.int (n : Nat)) = true ∧ PyData.depthAll (r.map fun n => PyData.int (n : Nat)) ≤ 1 := by
    intro r
    induction r with
    | nil => exact ⟨by simp [PyData.canLayAll0], by simp [PyData.depthAll]⟩
    | cons x r ih => exact ⟨by simp [PyData.canLayAll0, PyData.canLay0, ih.1], by simp only [List.map_cons, PyData.depthAll, PyData.depth]; omega⟩
  obtain ⟨h1, h2⟩ := q r
  unfold dI
  simp only [PyData.canLay0, PyData.depth]
  exact ⟨h1, by omega⟩
theorem lay_dS {r : List PySem.Str} (h : ∀ s ∈ r, ∀ c ∈ TL.tl s, Sg c) : PyData.canLay0 (dS r) = true ∧ PyData.depth (dS r) ≤ 2 := by
  obtain ⟨h1, h2⟩ := lay_strs h
  unfold dS
  simp only [PyData.canLay0, PyData.depth]
  exact ⟨h1, by omega⟩
theorem lay_all {α : Type} {f : α → PyData} {xs : List α} (h : ∀ x ∈ xs, PyData.canLay0 (f x) = true ∧ PyData.depth (f x) ≤ 2) : PyData.canLayAll0 (xs.map f) = true ∧ PyData.depthAll (xs.map f) ≤ 2 := by
  induction xs with
  | nil => exact ⟨by simp [PyData.canLayAll0], by simp [PyData.depthAll]⟩
  | cons x xs ih =>
    obtain ⟨a, b⟩ := h x (List.mem_cons_self ..)
    obtain ⟨c, d⟩ := ih fun y hy => h y (List.mem_cons_of_mem _ hy)
    exact ⟨by simp [PyData.canLayAll0, a, c], by simp only [List.map_cons, PyData.depthAll]; omega⟩
theorem shaped_tup2 {α : Type} {f : α → PyData} {xs : List α} (h : ∀ x ∈ xs, PyData.canLay0 (f x) = true ∧ PyData.depth (f x) ≤ 2) : SeqAt.shaped (.tuple (xs.map f)) = true := by
  obtain ⟨a, b⟩ := lay_all h
  unfold SeqAt.shaped
  simp only [PyData.canLay0, PyData.depth, a, Bool.true_and]
  exact decide_eq_true (by omega)
theorem shaped_dRk (R : Rk) : SeqAt.shaped (dRk R) = true := shaped_tup2 fun x _ => lay_dI x
theorem shaped_dMk {M : List (List PySem.Str)} (h : ∀ r ∈ M, ∀ s ∈ r, ∀ c ∈ TL.tl s, Sg c) : SeqAt.shaped (dMk M) = true := shaped_tup2 fun x hx => lay_dS (h x hx)
theorem shaped_dS {r : List PySem.Str} (h : ∀ s ∈ r, ∀ c ∈ TL.tl s, Sg c) : SeqAt.shaped (dS r) = true := shaped_strs h
theorem mkS_sg (k : Nat) : ∀ c ∈ TL.tl (mkS k), Sg c := by
  have q : ∀ j : Fin 4, ∀ c ∈ TL.tl (mkS j.val), Sg c := by
    have z : ((List.range 4).all fun j => (TL.tl (mkS j)).all fun c => decide (97 ≤ c) && decide (c ≤ 122)) = true := by decide +kernel
    intro j c hc
    have := List.all_eq_true.mp (List.all_eq_true.mp z j.val (List.mem_range.mpr j.isLt)) c hc
    simp only [Bool.and_eq_true, decide_eq_true_eq] at this
    exact this
  by_cases h : k < 4
  · exact q ⟨k, h⟩
  · have e : mkS k = mkS 3 := by
      unfold mkS
      rw [List.getD_eq_getElem?_getD, List.getElem?_eq_none (by show 4 ≤ k; omega)]
      rfl
    rw [e]
    exact q ⟨3, by omega⟩
/-! ### where a tally stands -/
structure TalV where
  sts : List PySem.Str
  rk : Rk
  deriving DecidableEq
structure TalOk (T : TalV) : Prop where
  asc : Asc T.sts
  nm : ∀ s ∈ T.sts, Nm s
  sq : Sq4 T.sts.length T.rk
  n8 : T.sts.length ≤ 8
/-- the rows of whole numbers at ws, tuples -/
def RkS (H : Hp) (ws : List V) (R : Rk) : Prop := Paired (fun v r => ∃ q, v = V.ref q ∧ H q = some (.tup (r.map fun n => V.int (n : Nat)))) ws R
/-- rows of texts, tuples -/
def MkS (H : Hp) (ws : List V) (M : List (List PySem.Str)) : Prop := Paired (fun v r => ∃ q, v = V.ref q ∧ H q = some (.tup (r.map V.str))) ws M
theorem RkS.same {H H' : Hp} {ws : List V} {R : Rk} (h : RkS H ws R) (e : Same H H') : RkS H' ws R := Paired.mapP h fun v r ⟨q, a, b⟩ => ⟨q, a, e _ _ b⟩
theorem MkS.same {H H' : Hp} {ws : List V} {R : List (List PySem.Str)} (h : MkS H ws R) (e : Same H H') : MkS H' ws R := Paired.mapP h fun v r ⟨q, a, b⟩ => ⟨q, a, e _ _ b⟩
theorem pget {α β : Type} {R : α → β → Prop} : ∀ {as : List α} {bs : List β} {i : Nat} {a : α}, Paired R as bs → as[i]? = some a → ∃ b, bs[i]? = some b ∧ R a b
  | _, _, _, _, .nil, h => by simp at h
  | _, _, 0, a, .cons (b := b) r _, h => by
    have e := Option.some.inj h
    exact ⟨b, rfl, by rw [← e]; exact r⟩
  | _, _, i + 1, a, .cons _ r, h => pget (i := i) r h
theorem dp_rk {K : PySem.W.Frag} {H : Hp} {ws : List V} {R : Rk} (h : RkS H ws R) : DpAll K H ws (R.map dI) := by
  induction h with
  | nil => exact .nil
  | @cons v r vs R a _ ih =>
    obtain ⟨q, rfl, hq⟩ := a
    refine .cons (.tup (SqT.of hq) ?_) ih
    have := dp_ints (K := K) (H := H) (r.map fun n : Nat => (n : Int))
    rw [List.map_map, List.map_map] at this
    exact this
theorem dp_mk {K : PySem.W.Frag} {H : Hp} {ws : List V} {R : List (List PySem.Str)} (h : MkS H ws R) : DpAll K H ws (R.map dS) := by
  induction h with
  | nil => exact .nil
  | cons a _ ih =>
    obtain ⟨q, rfl, hq⟩ := a
    exact .cons (.tup (SqT.of hq) (dp_strs _)) ih
def tfs (a b : Addr) : List (PySem.Str × V) := [("held_states", .ref a), ("held_ranks", .ref b)]
structure TalAt (C : Addr) (H : Hp) (t dx a b : Addr) (ws : List V) (T : TalV) : Prop where
  ins : H t = some (.ins C dx (tfs a b))
  st : FzT H a (T.sts.map V.str)
  rk : H b = some (.tup ws)
  rows : RkS H ws T.rk
def IsTal (C : Addr) (H : Hp) (t : Addr) (T : TalV) : Prop := ∃ dx a b ws, TalAt C H t dx a b ws T
theorem TalAt.same {C : Addr} {H H' : Hp} {t dx a b : Addr} {ws : List V} {T : TalV} (h : TalAt C H t dx a b ws T) (e : Same H H') : TalAt C H' t dx a b ws T := ⟨e _ _ h.ins, h.st.on e, e _ _ h.rk, h.rows.same e⟩
theorem IsTal.same {C : Addr} {H H' : Hp} {t : Addr} {T : TalV} (h : IsTal C H t T) (e : Same H H') : IsTal C H' t T := by
  obtain ⟨dx, a, b, ws, h⟩ := h
  exact ⟨dx, a, b, ws, h.same e⟩
theorem tfs1 (a b : Addr) : (tfs a b).lookup ("held_states" : PySem.Str) = some (.ref a) := look_eq
theorem tfs2 (a b : Addr) : (tfs a b).lookup ("held_ranks" : PySem.Str) = some (.ref b) := (look_ne (by decide +kernel)).trans look_eq
theorem tputf0 (v : V) : putF "held_states" v [] = [(("held_states" : PySem.Str), v)] := rfl
theorem tputf1 (a v : V) : putF "held_ranks" v [(("held_states" : PySem.Str), a)] = [(("held_states" : PySem.Str), a), (("held_ranks" : PySem.Str), v)] := by
  unfold putF
  rw [if_neg (by decide +kernel)]
  rfl
theorem tputf2 (a b v : V) : putF "held_states" v [(("held_states" : PySem.Str), a), (("held_ranks" : PySem.Str), b)] = [(("held_states" : PySem.Str), v), (("held_ranks" : PySem.Str), b)] := by
  unfold putF
  rw [if_pos rfl]
theorem tputf3 (a b v : V) : putF "held_ranks" v [(("held_states" : PySem.Str), a), (("held_ranks" : PySem.Str), b)] = [(("held_states" : PySem.Str), a), (("held_ranks" : PySem.Str), v)] := by
  unfold putF
  rw [if_neg (by decide +kernel)]
  unfold putF
  rw [if_pos rfl]
theorem tno (m : PySem.Str) (a b : Addr) (h1 : ¬ m = "held_states") (h2 : ¬ m = "held_ranks") : (tfs a b).lookup m = none := (look_ne h1).trans ((look_ne h2).trans rfl)
end Bz

namespace Bz
open PySem PySem.Spec PyProof.Rows L2
/-! ### values of any kind, as a tally's making is passed them -/
inductive Kn (H : Hp) : V → String → Prop where
  | non : Kn H .non "NoneType"
  | bl (b : Bool) : Kn H (.bl b) "bool"
  | int (i : Int) : Kn H (.int i) "int"
  | str (s : PySem.Str) (h : s.length ≤ 100000) : Kn H (.str s) "str"
  | lst {a : Addr} {xs : List V} (e : H a = some (.lst xs)) : Kn H (.ref a) "list"
  | tup {a : Addr} {xs : List V} (e : H a = some (.tup xs)) : Kn H (.ref a) "tuple"
  | dct {a : Addr} {kvs : List (Ky × V)} (e : H a = some (.dK kvs)) : Kn H (.ref a) "dict"
  | ftp {a : Addr} {xs : List V} (e : FzT H a xs) : Kn H (.ref a) "tuple"
theorem Kn.ty {K : PySem.W.Frag} {H : Hp} {v : V} {t : String} (h : Kn H v t) : TyX K H v (.type t) := by
  cases h with
  | non => exact .base .non
  | bl b => exact .base (.bl b)
  | int i => exact .base (.int i)
  | str s _ => exact .base (.str s)
  | lst e => exact .base (.lst e)
  | tup e => exact .base (.tup e)
  | dct e => exact .base (.dK e)
  | ftp e =>
    obtain ⟨u, e, o, rfl, _⟩ := e
    exact .fTuple e
theorem Kn.mem {H : Hp} {v : V} {t : String} (h : Kn H v t) : t ∈ ["NoneType", "bool", "int", "str", "list", "tuple", "dict", "float", "set", "bytes"] := by
  cases h <;> decide
theorem Kn.same {H H' : Hp} {v : V} {t : String} (h : Kn H v t) (s : Same H H') : Kn H' v t := by
  cases h with
  | non => exact .non
  | bl b => exact .bl b
  | int i => exact .int i
  | str s h => exact .str s h
  | lst e => exact .lst (s _ _ e)
  | tup e => exact .tup (s _ _ e)
  | dct e => exact .dct (s _ _ e)
  | ftp e => exact .ftp (e.on s)
def strV : V → PySem.Str
  | .str s => s
  | _ => ""
def nameV : V → Bool
  | .str s => nmB s
  | _ => false
def markV : V → Bool
  | .str s => decide (s ∈ mkW)
  | _ => false
/-- a list or a tuple of these, or neither -/
inductive Sv (H : Hp) : V → Option (List V) → Prop where
  | lst {a : Addr} {xs : List V} (e : H a = some (.lst xs)) : Sv H (.ref a) (some xs)
  | tup {a : Addr} {xs : List V} (e : H a = some (.tup xs)) : Sv H (.ref a) (some xs)
  | ftp {a : Addr} {xs : List V} (e : FzT H a xs) : Sv H (.ref a) (some xs)
  | no {v : V} {t : String} (k : Kn H v t) (h1 : t ≠ "list") (h2 : t ≠ "tuple") : Sv H v none
theorem Sv.same {H H' : Hp} {v : V} {o : Option (List V)} (h : Sv H v o) (s : Same H H') : Sv H' v o := by
  cases h with
  | lst e => exact .lst (s _ _ e)
  | tup e => exact .tup (s _ _ e)
  | ftp e => exact .ftp (e.on s)
  | no k h1 h2 => exact .no (k.same s) h1 h2
theorem Sv.kn {H : Hp} {v : V} {o : Option (List V)} (h : Sv H v o) : ∃ t, Kn H v t ∧ (decide (t = "list") || decide (t = "tuple")) = o.isSome := by
  cases h with
  | lst e => exact ⟨_, .lst e, rfl⟩
  | tup e => exact ⟨_, .tup e, rfl⟩
  | ftp e => exact ⟨_, .ftp e, rfl⟩
  | no k h1 h2 => exact ⟨_, k, by simp [h1, h2]⟩
theorem Sv.seq {K : PySem.W.Frag} {H : Hp} {v : V} {xs : List V} (h : Sv H v (some xs)) : ∃ a, v = .ref a ∧ SqE K H a xs := by
  cases h with
  | lst e => exact ⟨_, rfl, .inl (SqL.of e)⟩
  | tup e => exact ⟨_, rfl, .inr (SqT.of e)⟩
  | ftp e => exact ⟨_, rfl, .inr e.sq⟩
/-- all that stands in it is of some kind -/
def SvAll (H : Hp) (o : Option (List V)) : Prop := ∀ xs, o = some xs → xs.length ≤ 1000 ∧ ∀ x ∈ xs, ∃ t, Kn H x t
theorem SvAll.same {H H' : Hp} {o : Option (List V)} (h : SvAll H o) (s : Same H H') : SvAll H' o := fun xs e => ⟨(h xs e).1, fun x hx => by
  obtain ⟨t, k⟩ := (h xs e).2 x hx
  exact ⟨t, k.same s⟩⟩
def rowB (o : Option (List V)) (n : Nat) : Bool := match o with
  | some xs => decide (xs.length = n) && xs.all markV
  | none => false
def talB (o1 o2 : Option (List V)) (rs : V → Option (List V)) : Bool := match o1, o2 with
  | some xs, some ys => decide (xs.length ≤ 8) && (xs.all nameV && (decide (xs.map strV).Nodup && (decide (ys.length = xs.length) && ys.all fun y => rowB (rs y) xs.length)))
  | _, _ => false
def RsAll (H : Hp) (o : Option (List V)) (rs : V → Option (List V)) : Prop := ∀ ys, o = some ys → ys.length ≤ 1000 ∧ ∀ y ∈ ys, Sv H y (rs y) ∧ SvAll H (rs y)
theorem RsAll.same {H H' : Hp} {o : Option (List V)} {rs : V → Option (List V)} (h : RsAll H o rs) (s : Same H H') : RsAll H' o rs := fun ys e => ⟨(h ys e).1, fun y hy => ⟨((h ys e).2 y hy).1.same s, ((h ys e).2 y hy).2.same s⟩⟩
theorem names_str : ∀ {xs : List V}, xs.all nameV = true → xs = (xs.map strV).map V.str ∧ ∀ s ∈ xs.map strV, Nm s
  | [], _ => ⟨rfl, fun s h => by cases h⟩
  | x :: xs, h => by
    simp only [List.all_cons, Bool.and_eq_true] at h
    obtain ⟨i1, i2⟩ := names_str h.2
    have hx : ∃ s, x = .str s ∧ Nm s := by
      cases x with
      | str s => exact ⟨s, rfl, nmB_iff.mp h.1⟩
      | _ => exact absurd h.1 (by simp [nameV])
    obtain ⟨s, rfl, hs⟩ := hx
    refine ⟨by rw [List.map_cons, List.map_cons, ← i1]; rfl, fun z hz => ?_⟩
    rcases List.mem_cons.mp hz with rfl | hz
    · exact hs
    · exact i2 z hz
theorem markV_str {v : V} (h : markV v = true) : ∃ s, v = .str s ∧ s ∈ mkW := by
  cases v with
  | str s => exact ⟨s, rfl, of_decide_eq_true h⟩
  | _ => exact absurd h (by simp [markV])
theorem dup_short {α : Type} [DecidableEq α] : ∀ {L : List α}, ¬ L.Nodup → ∃ L' : List α, L'.length + 1 = L.length ∧ ∀ k ∈ L, k ∈ L'
  | [], h => absurd List.nodup_nil h
  | x :: L, h => by
    by_cases hx : x ∈ L
    · exact ⟨L, rfl, fun k hk => (List.mem_cons.mp hk).elim (fun e => by rw [e]; exact hx) fun h => h⟩
    · obtain ⟨L', e, hs⟩ := dup_short (L := L) fun hn => h (List.nodup_cons.mpr ⟨hx, hn⟩)
      refine ⟨x :: L', by simp [e], fun k hk => ?_⟩
      rcases List.mem_cons.mp hk with rfl | hk
      · exact List.mem_cons_self ..
      · exact List.mem_cons_of_mem _ (hs k hk)
theorem set_short {α : Type} [DecidableEq α] {zs L : List α} (hz : zs.Nodup) (hm : ∀ k, k ∈ zs ↔ k ∈ L) : (zs.length < L.length) = ¬ L.Nodup := by
  refine propext ⟨fun h hn => ?_, fun h => ?_⟩
  · have := nodup_le hn fun s hs => (hm s).mpr hs
    omega
  · obtain ⟨L', e, hs⟩ := dup_short h
    have := nodup_le hz fun s hs' => hs s ((hm s).mp hs')
    omega
def spIsNameA : Sp := fun vs H Q _ => ∃ (v : V) (t : String), vs = [v] ∧ Kn H v t ∧ Q (.bl (nameV v)) H
def spIsMark : Sp := fun vs H Q _ => ∃ (v : V) (t : String), vs = [v] ∧ Kn H v t ∧ Q (.bl (markV v)) H
def spMarkRow : Sp := fun vs H Q _ => ∃ (v : V) (o : Option (List V)) (n : Nat), vs = [v, .int (n : Nat)] ∧ Sv H v o ∧ SvAll H o ∧ ∀ H', Same H H' → Q (.bl (rowB o n)) H'
def spIsTally : Sp := fun vs H Q _ => ∃ (v1 v2 : V) (o1 o2 : Option (List V)) (rs : V → Option (List V)), vs = [v1, v2] ∧ Sv H v1 o1 ∧ Sv H v2 o2 ∧ SvAll H o1 ∧ RsAll H o2 rs ∧ ∀ H', Same H H' → Q (.bl (talB o1 o2 rs)) H'
/-- the rank of a mark -/
def markIx (v : V) : Nat := mkW.idxOf (strV v)
/-- what a tally is made of -/
structure TMade (T : TalV) (xs ys : List V) (rs : V → Option (List V)) : Prop where
  mem : ∀ k, k ∈ T.sts ↔ k ∈ xs.map strV
  rk : T.rk = T.sts.map fun s => T.sts.map fun t => markIx (((rs (ys.getD ((xs.map strV).idxOf s) .non)).getD []).getD ((xs.map strV).idxOf t) .non)
def spTInit (C B : Addr) : Sp := fun vs H Q E => ∃ (m dx : Addr) (v1 v2 : V) (o1 o2 : Option (List V)) (rs : V → Option (List V)), vs = [.ref m, v1, v2] ∧ H m = some (.ins C dx []) ∧ Sv H v1 o1 ∧ Sv H v2 o2 ∧ SvAll H o1 ∧ RsAll H o2 rs ∧
  (talB o1 o2 rs = true → (∀ a xs, v1 = .ref a → H a ≠ some (.tup xs)) ∧ ∀ (T : TalV) (H' : Hp), IsTal C H' m T → TalOk T → (∀ xs ys, o1 = some xs → o2 = some ys → TMade T xs ys rs) → (∀ q o, q ≠ m → H q = some o → H' q = some o) → Q .non H') ∧
  (talB o1 o2 rs = false → ∀ H', Same H H' → E (.ref B) none H')
/-- a tally of states and ranks that are right -/
def spTWith (C : Addr) : Sp := fun vs H Q _ => ∃ (a b : Addr) (ss : List PySem.Str) (ws : List V) (R : Rk), vs = [.ref a, .ref b] ∧ FzT H a (ss.map V.str) ∧ H b = some (.tup ws) ∧ RkS H ws R ∧
  ∀ (t : Addr) (H' : Hp), H t = none → IsTal C H' t ⟨ss, R⟩ → Same H H' → Q (.ref t) H'
def spLeastW (K : PySem.W.Frag) : Sp := fun vs H Q _ => ∃ (a b : Addr) (xs ys : List Nat) (n : Nat), vs = [.ref a, .ref b] ∧ SqE K H a (xs.map fun n => V.int (n : Nat)) ∧ SqE K H b (ys.map fun n => V.int (n : Nat)) ∧ xs.length = n ∧ ys.length = n ∧ 1 ≤ n ∧ n ≤ 1000 ∧
  (∀ x ∈ xs, x ≤ 3) ∧ (∀ y ∈ ys, y ≤ 3) ∧ ∀ H', Same H H' → Q (.int (lowN (rowN n fun k => max (xs.getD k 3) (ys.getD k 3)) : Nat)) H'
/-- rows, each a list or a tuple -/
def RkE (K : PySem.W.Frag) (H : Hp) (ws : List V) (R : Rk) : Prop := Paired (fun v r => ∃ q, v = V.ref q ∧ SqE K H q (r.map fun n => V.int (n : Nat))) ws R
theorem RkS.e {K : PySem.W.Frag} {H : Hp} {ws : List V} {R : Rk} (h : RkS H ws R) : RkE K H ws R := Paired.mapP h fun v r ⟨q, a, b⟩ => ⟨q, a, .inr (SqT.of b)⟩
theorem RkE.same {K : PySem.W.Frag} {H H' : Hp} {ws : List V} {R : Rk} (h : RkE K H ws R) (e : Same H H') : RkE K H' ws R := Paired.mapP h fun v r ⟨q, a, b⟩ => ⟨q, a, b.same e⟩
def spPut (K : PySem.W.Frag) : Sp := fun vs H Q _ => ∃ (a b : Addr) (ws us : List V) (A B : Rk) (n : Nat), vs = [.ref a, .ref b] ∧ SqE K H a ws ∧ RkE K H ws A ∧ H b = some (.tup us) ∧ RkS H us B ∧ Sq4 n A ∧ Sq4 n B ∧ 1 ≤ n ∧ n ≤ 8 ∧
  ∀ (q : Addr) (vs : List V) (H' : Hp), H q = none → H' q = some (.tup vs) → RkS H' vs (putR n A B) → Same H H' → Q (.ref q) H'
/-- the marks of ranks -/
def mkM (R : Rk) : List (List PySem.Str) := R.map fun r => r.map mkS
def spMarks (C : Addr) : Sp := fun vs H Q _ => ∃ (t : Addr) (T : TalV), vs = [.ref t] ∧ IsTal C H t T ∧ TalOk T ∧
  ∀ (q : Addr) (vs : List V) (H' : Hp), H q = none → H' q = some (.tup vs) → MkS H' vs (mkM T.rk) → Same H H' → Q (.ref q) H'
/-- t.then(u) -/
def spThen (C B : Addr) : Sp := fun vs H Q E => ∃ (t u : Addr) (T U : TalV), vs = [.ref t, .ref u] ∧ IsTal C H t T ∧ IsTal C H u U ∧ TalOk T ∧ TalOk U ∧ 1 ≤ T.sts.length ∧
  (T.sts = U.sts → ∀ (q : Addr) (H' : Hp), H q = none → IsTal C H' q ⟨T.sts, putR T.sts.length T.rk U.rk⟩ → Same H H' → Q (.ref q) H') ∧ (T.sts ≠ U.sts → ∀ H', Same H H' → E (.ref B) none H')
def spTEq (C : Addr) : Sp := fun vs H Q _ => ∃ (t u : Addr) (T U : TalV), vs = [.ref t, .ref u] ∧ IsTal C H t T ∧ IsTal C H u U ∧ TalOk T ∧ TalOk U ∧ ∀ H', Same H H' → Q (.bl (decide (T = U))) H'
end Bz

namespace Bz
open PySem PySem.Spec PyProof.Rows L2
/-! ### rows, tuples, while a list of them is made at D -/
def RowD {α : Type} (g : α → List V) (D : Addr) (H : Hp) (ws : List V) (R : List α) : Prop := Paired (fun v r => ∃ q, v = V.ref q ∧ q ≠ D ∧ H q = some (.tup (g r))) ws R
section
variable {α : Type} {g : α → List V} {D : Addr} {H H' : Hp} {ws : List V} {R : List α} {o : HO} {q : Addr} {x : α}
theorem RowD.upd (h : RowD g D H ws R) : RowD g D (L2.upd H D o) ws R := Paired.mapP h fun v r ⟨q, e, n, hq⟩ => ⟨q, e, n, (upd_ne n).trans hq⟩
theorem RowD.keep (h : RowD g D H ws R) (s : Same H H') : RowD g D H' ws R := Paired.mapP h fun v r ⟨q, e, n, hq⟩ => ⟨q, e, n, s _ _ hq⟩
theorem RowD.snoc (h : RowD g D H ws R) (n : q ≠ D) (e : H q = some (.tup (g x))) : RowD g D H (ws ++ [.ref q]) (R ++ [x]) := paired_snoc h ⟨q, rfl, n, e⟩
end
def gI (r : List Nat) : List V := r.map fun n => V.int (n : Nat)
def gS (r : List PySem.Str) : List V := r.map V.str
theorem RowD.rks {D : Addr} {H : Hp} {ws : List V} {R : Rk} (h : RowD gI D H ws R) : RkS H ws R := Paired.mapP h fun v r ⟨q, e, _, hq⟩ => ⟨q, e, hq⟩
theorem RowD.mks {D : Addr} {H : Hp} {ws : List V} {R : List (List PySem.Str)} (h : RowD gS D H ws R) : MkS H ws R := Paired.mapP h fun v r ⟨q, e, _, hq⟩ => ⟨q, e, hq⟩
theorem idx_get {s : PySem.Str} : ∀ {ns : List PySem.Str}, s ∈ ns → ns[ns.idxOf s]? = some s
  | n :: ns, h => by
    rw [List.idxOf_cons]
    by_cases e : (n == s) = true
    · rw [e]
      show some n = some s
      rw [beq_iff_eq.mp e]
    · rw [eq_false_of_ne_true e]
      show (n :: ns)[ns.idxOf s + 1]? = some s
      rw [List.getElem?_cons_succ]
      refine idx_get ((List.mem_cons.mp h).elim (fun z => ?_) id)
      exact absurd (by rw [z]; exact beq_self_eq_true n) e
theorem idx_lt {s : PySem.Str} {ns : List PySem.Str} (h : s ∈ ns) : ns.idxOf s < ns.length := List.idxOf_lt_length_of_mem h
theorem idx_min {s : PySem.Str} : ∀ {ns : List PySem.Str} {m : Nat}, m < ns.idxOf s → ns[m]? ≠ some s
  | [], m, h => by simp at h
  | n :: ns, m, h => by
    rw [List.idxOf_cons] at h
    by_cases e : (n == s) = true
    · rw [e] at h
      exact absurd h (Nat.not_lt_zero _)
    · rw [eq_false_of_ne_true e] at h
      have h' : m < ns.idxOf s + 1 := h
      cases m with
      | zero => exact fun z => e (by rw [Option.some.inj z]; exact beq_self_eq_true s)
      | succ m =>
        rw [List.getElem?_cons_succ]
        exact idx_min (by omega)
/-- states.index(s), states a list of texts -/
theorem rIndex_str {K : PySem.W.Frag} {a : Addr} {ns : List PySem.Str} {s : PySem.Str} {H : Hp} {Q : VK} (ha : SqL K H a (ns.map V.str)) (hs : s ∈ ns) (q : Q (.int (ns.idxOf s : Nat)) H) : rIndex K (.ref a) [.str s] H Q := by
  refine ⟨a, _, _, ns.idxOf s, .str s, rfl, rfl, ha, rfl, ?_, ?_, ?_, fun m z' hm hz => ?_, q⟩
  · rw [List.all_map]
    exact List.all_eq_true.mpr fun _ _ => rfl
  · rw [List.getElem?_map, idx_get hs]
    rfl
  · simp [eqV]
  · rw [List.getElem?_map] at hz
    cases e : ns[m]? with
    | none =>
      rw [e] at hz
      cases hz
    | some y =>
      rw [e] at hz
      have hz' : V.str y = z' := Option.some.inj hz
      rw [← hz']
      have ne : y ≠ s := fun z => idx_min hm (by rw [e, z])
      simp [eqV, ne]
/-- t.index(s), t a tuple of texts -/
def rTupIndex (K : PySem.W.Frag) : V → List V → Hp → VK → Prop := fun x xs H Q => ∃ (p : Addr) (ys : List PySem.Str) (z : PySem.Str) (j : Nat), x = .ref p ∧ xs = [.str z] ∧ SqT K H p (ys.map V.str) ∧ ys[j]? = some z ∧ (∀ m, m < j → ys[m]? ≠ some z) ∧ Q (.int (j : Nat)) H
theorem kmt_tup_index (K : PySem.W.Frag) {X : Cx} (h : X.K = K := by rfl) : MtR X "tuple.index" (rTupIndex K) := by subst h; exact mt_tup_index
/-- within another comprehension -/
theorem blkOk_in {N : List PySem.Str} {sc' scope : Scope} {own : List (PySem.Str × Nat)} {a : ScopeKind} {b : List (PySem.Str × NameKind)} {c d : Bool} {z : List (PySem.Str × PySem.Const)} (e : sc' = ⟨a, b, c, d, z⟩) (h : blkC N ⟨a, b, c, d, z⟩ scope own = true) : BlkOk N sc' scope own := by
  subst e
  exact blkOk_by h
theorem rIxE_of {K : PySem.W.Frag} {H : Hp} {p : Addr} {xs : List V} {j : Nat} {v : V} {Q : VK} (h : SqE K H p xs) (e : xs[j]? = some v) (q : Q v H) : rIxE K (.ref p) (.int (j : Nat)) H Q := by
  rcases h with h | h
  · exact .inl ⟨p, xs, _, v, rfl, rfl, h, atI_nat e, q⟩
  · exact .inr (.inl ⟨p, xs, _, v, rfl, rfl, h, atI_nat e, q⟩)
theorem rMark {K : PySem.W.Frag} {H : Hp} {p : Addr} {z : PySem.Str} {Q : VK} (h : SqT K H p (mkW.map V.str)) (e : z ∈ mkW) (q : Q (.int (markIx (.str z) : Nat)) H) : rTupIndex K (.ref p) [.str z] H Q :=
  ⟨p, mkW, z, mkW.idxOf z, rfl, rfl, h, idx_get e, fun _ => idx_min, q⟩
theorem markIx_le {z : PySem.Str} (e : z ∈ mkW) : markIx (.str z) ≤ 3 := Nat.le_of_lt_succ (idx_lt e)
/-- the rank that a tally's making works out -/
def tRow (rs : V → Option (List V)) (ys : List V) (ns : List PySem.Str) (s t : PySem.Str) : Nat := markIx (((rs (ys.getD (ns.idxOf s) .non)).getD []).getD (ns.idxOf t) .non)
theorem getD_of {α : Type} {xs : List α} {j : Nat} {v d : α} (h : xs[j]? = some v) : xs.getD j d = v := by rw [List.getD_eq_getElem?_getD, h, Option.getD_some]
theorem sv_ext {H H' : Hp} {m : Addr} {v : V} {zs : List V} {C dx : Addr} {fs : List (PySem.Str × V)} (h : Sv H v (some zs)) (hm : H m = some (.ins C dx fs)) (k : Ext m H H') : Sv H' v (some zs) := by
  cases h with
  | lst e => exact .lst (k _ _ (ne_of e hm (by intro z; cases z)) e)
  | tup e => exact .tup (k _ _ (ne_of e hm (by intro z; cases z)) e)
  | ftp e =>
    obtain ⟨u, e, q⟩ := e
    exact .ftp ⟨u, k _ _ (ne_of e hm (fun z => q.nins _ _ _ z)) e, q⟩
theorem rowN_succ (n : Nat) (f : Nat → Nat) : rowN (n + 1) f = rowN n f ++ [f n] := by
  unfold rowN
  rw [List.range_succ, List.map_append]
  rfl
theorem rowN_len (n : Nat) (f : Nat → Nat) : (rowN n f).length = n := by simp [rowN]
theorem sqk_same {K : PySem.W.Frag} {k : Bool} {H H' : Hp} {a : Addr} {xs : List V} (s : Same H H') (h : SqK k K H a xs) : SqK k K H' a xs := by
  cases k with
  | true => exact sqt_same s h
  | false => exact s.seq h
theorem RkS.refs {H : Hp} {us : List V} {B : Rk} (h : RkS H us B) : ∃ ls : List Addr, us = ls.map V.ref ∧ ls.length = B.length ∧ ∀ (j : Nat) (l : Addr), ls[j]? = some l → ∃ r : List Nat, B[j]? = some r ∧ H l = some (.tup (gI r)) := by
  induction h with
  | nil => exact ⟨[], rfl, rfl, fun j l h => by simp at h⟩
  | @cons v r us B a _ ih =>
    obtain ⟨q, rfl, hq⟩ := a
    obtain ⟨ls, rfl, e, k⟩ := ih
    refine ⟨q :: ls, rfl, by simp [e], fun j l h => ?_⟩
    cases j with
    | zero =>
      cases Option.some.inj h
      exact ⟨r, rfl, hq⟩
    | succ j =>
      rw [List.getElem?_cons_succ] at h ⊢
      exact k j l h
theorem vcol_gI {n i : Nat} {B : Rk} (h : Sq4 n B) (hi : i < n) : vcol (fun j => gI (B.getD j [])) n i = gI (rowN n fun j => ent B j i) := by
  unfold vcol rowN gI
  rw [List.map_map]
  refine List.map_congr_left fun j hj => ?_
  have hj := List.mem_range.mp hj
  have hl : j < B.length := by rw [h.len]; exact hj
  have e : B.getD j [] = B[j] := getD_of (List.getElem?_eq_getElem hl)
  have r := (h.row _ (List.getElem_mem hl)).1
  show ((B.getD j []).map fun n => V.int (n : Nat)).getD i .non = V.int (ent B j i : Nat)
  unfold ent
  rw [e, getD_of (show (B[j].map fun n => V.int (n : Nat))[i]? = some (V.int ((B[j][i]'(by omega) : Nat) : Int)) from ?_), getD_of (List.getElem?_eq_getElem (show i < B[j].length by omega))]
  rw [List.getElem?_map, List.getElem?_eq_getElem (show i < B[j].length by omega)]
  rfl
theorem rowN_congr {n : Nat} {f g : Nat → Nat} (h : ∀ k, k < n → f k = g k) : rowN n f = rowN n g := List.map_congr_left fun k hk => h k (List.mem_range.mp hk)
theorem rowN_at {n k d : Nat} {f : Nat → Nat} (h : k < n) : (rowN n f).getD k d = f k := by
  refine getD_of ?_
  unfold rowN
  rw [List.getElem?_map, List.getElem?_range h]
  rfl
end Bz

namespace Bz
open PySem PySem.Spec PyProof.Rows L2
/-! ### a law's helpers for tallies -/
theorem IsTal.ext {C : Addr} {H H' : Hp} {t p : Addr} {c : Nat} {T : TalV} (h : IsTal C H t T) (s : Src H p c) (e : Ext p H H') : IsTal C H' t T := by
  obtain ⟨g, sd, k, hp, _⟩ := s
  have ne : ∀ {q : Addr} {o : HO}, H q = some o → o ≠ .lst [.int g, .int sd, .int k] → q ≠ p := fun {q o} h1 h2 z => by
    rw [z, hp] at h1
    exact h2 (Option.some.inj h1).symm
  obtain ⟨dx, a, b, ws, hI⟩ := h
  obtain ⟨u, hu, fu⟩ := hI.st
  refine ⟨dx, a, b, ws, e _ _ (ne hI.ins (by intro z; cases z)) hI.ins, ⟨u, e _ _ (ne hu (fu.nlst _)) hu, fu⟩, e _ _ (ne hI.rk (by intro z; cases z)) hI.rk, Paired.mapP hI.rows fun v r ⟨q, ev, hq⟩ => ⟨q, ev, e _ _ (ne hq (by intro z; cases z)) hq⟩⟩
theorem IsTal.go {C : Addr} {H H' : Hp} {t p : Addr} {c d : Nat} {T : TalV} (h : IsTal C H t T) (s : Src H p c) (g : Go p d H H') : IsTal C H' t T := h.ext s g.ext
def spLPut : Sp := fun vs H Q _ => ∃ (a b : Addr) (ws us : List V) (A B : Rk) (n : Nat), vs = [.ref a, .ref b] ∧ H a = some (.tup ws) ∧ RkS H ws A ∧ H b = some (.tup us) ∧ RkS H us B ∧ Sq4 n A ∧ Sq4 n B ∧ 1 ≤ n ∧ n ≤ 8 ∧
  ∀ (q : Addr) (vs : List V) (H' : Hp), H q = none → H' q = some (.tup vs) → RkS H' vs (putR n A B) → Same H H' → Q (.ref q) H'
def spLMarks : Sp := fun vs H Q _ => ∃ (a : Addr) (ws : List V) (A : Rk) (n : Nat), vs = [.ref a] ∧ H a = some (.tup ws) ∧ RkS H ws A ∧ Sq4 n A ∧ n ≤ 8 ∧
  ∀ (q : Addr) (vs : List V) (H' : Hp), H q = none → H' q = some (.tup vs) → MkS H' vs (mkM A) → Same H H' → Q (.ref q) H'
def spLRanks (C : Addr) : Sp := fun vs H Q _ => ∃ (t : Addr) (T : TalV), vs = [.ref t] ∧ IsTal C H t T ∧ TalOk T ∧
  ∀ (q : Addr) (vs : List V) (H' : Hp), H q = none → H' q = some (.tup vs) → RkS H' vs T.rk → Same H H' → Q (.ref q) H'
def spLDrawn (C : Addr) : Sp := fun vs H Q _ => ∃ (p a : Addr) (ns : List PySem.Str) (c : Nat), vs = [.ref p, .ref a] ∧ Src H p c ∧ c ≤ 900000 ∧ H a = some (.lst (ns.map V.str)) ∧ a ≠ p ∧ (∀ s ∈ ns, Nm s) ∧ ns.Nodup ∧ ns.length ≤ 8 ∧
  ∀ (t : Addr) (T : TalV) (H' : Hp), H t = none → IsTal C H' t T → TalOk T → (∀ k, k ∈ T.sts ↔ k ∈ ns) → Go p (c + ns.length * ns.length) H H' → Q (.ref t) H'
/-- t.then(u), or the text bad -/
def spLTold (C : Addr) : Sp := fun vs H Q _ => ∃ (t u : Addr) (T U : TalV), vs = [.ref t, .ref u] ∧ IsTal C H t T ∧ IsTal C H u U ∧ TalOk T ∧ TalOk U ∧ 1 ≤ T.sts.length ∧ T.sts ≠ U.sts ∧ ∀ H', Same H H' → Q (.str "bad") H'
theorem mkS_ix {c : Nat} (h : c ≤ 3) : mkW.idxOf (mkS c) = c := by
  have : c = 0 ∨ c = 1 ∨ c = 2 ∨ c = 3 := by omega
  rcases this with rfl | rfl | rfl | rfl <;> decide +kernel
theorem mkS_mem (c : Nat) : mkS c ∈ mkW := by
  by_cases h : c ≤ 3
  · have : c = 0 ∨ c = 1 ∨ c = 2 ∨ c = 3 := by omega
    rcases this with rfl | rfl | rfl | rfl <;> decide +kernel
  · have e : mkS c = mkS 3 := by
      unfold mkS
      rw [List.getD_eq_getElem?_getD, List.getElem?_eq_none (by show 4 ≤ c; omega)]
      rfl
    rw [e]
    decide +kernel
theorem mkM_len (R : Rk) : (mkM R).length = R.length := List.length_map ..
theorem ent_at {A : Rk} {r : List Nat} {i k : Nat} (h : A[i]? = some r) (hk : k < r.length) : (gI r)[k]? = some (V.int (ent A i k : Nat)) := by
  unfold gI ent
  rw [List.getElem?_map, List.getElem?_eq_getElem hk, getD_of h, getD_of (List.getElem?_eq_getElem hk)]
  rfl
theorem rgV_len (n : Nat) : (rgV 0 (n : Nat)).length = n := by rw [rgV_length]; omega
theorem rgV_at {n j : Nat} {v : V} (h : (rgV 0 (n : Nat))[j]? = some v) : v = .int (j : Nat) ∧ j < n := by
  have hl := (List.getElem?_eq_some_iff.mp h).1
  rw [rgV_len] at hl
  unfold rgV at h
  rw [List.getElem?_map, List.getElem?_range (by omega)] at h
  have e : V.int (0 + (j : Nat)) = v := Option.some.inj h
  refine ⟨?_, hl⟩
  rw [← e]
  exact congrArg V.int (Int.zero_add _)
theorem max_int (x y : Nat) : (if (y : Int) > (x : Nat) then (y : Int) else (x : Nat)) = ((max x y : Nat) : Int) := by
  by_cases h : x < y
  · rw [if_pos (by omega)]; omega
  · rw [if_neg (by omega)]; omega
theorem map_int2 (l : List Nat) : (l.map fun n => ((n : Nat) : Int)).map V.int = l.map fun n => V.int (n : Nat) := by
  rw [List.map_map]
  rfl
/-- rows of marks, lists, while a list of them is made at D -/
def RowK (n : Nat) (D p : Addr) (H : Hp) (v : V) : Prop := ∃ (q : Addr) (zs : List V), v = .ref q ∧ q ≠ D ∧ q ≠ p ∧ H q = some (.lst zs) ∧ zs.length = n ∧ ∀ z ∈ zs, markV z = true
theorem RowK.upd {n : Nat} {D p : Addr} {H : Hp} {v : V} {o : HO} (h : RowK n D p H v) : RowK n D p (L2.upd H D o) v := by
  obtain ⟨q, zs, e, nd, np, hq, k⟩ := h
  exact ⟨q, zs, e, nd, np, (upd_ne nd).trans hq, k⟩
theorem RowK.ext {n : Nat} {D p : Addr} {H H' : Hp} {v : V} (h : RowK n D p H v) (s : Ext p H H') : RowK n D p H' v := by
  obtain ⟨q, zs, e, nd, np, hq, k⟩ := h
  exact ⟨q, zs, e, nd, np, s _ _ np hq, k⟩
def lstAt (H : Hp) (v : V) : Option (List V) := match v with
  | .ref q => match H q with
    | some (.lst zs) => some zs
    | _ => none
  | _ => none
theorem RowK.at {n : Nat} {D p : Addr} {H : Hp} {v : V} (h : RowK n D p H v) : ∃ q zs, v = .ref q ∧ H q = some (.lst zs) ∧ lstAt H v = some zs ∧ zs.length = n ∧ ∀ z ∈ zs, markV z = true := by
  obtain ⟨q, zs, rfl, nd, np, hq, k1, k2⟩ := h
  refine ⟨q, zs, rfl, hq, ?_, k1, k2⟩
  unfold lstAt
  dsimp only
  rw [hq]
theorem mkW_len {w : PySem.Str} (h : w ∈ mkW) : w.length ≤ 100000 := by
  have z : (mkW.all fun w => decide (w.length ≤ 100000)) = true := by decide +kernel
  exact of_decide_eq_true (List.all_eq_true.mp z w h)
theorem nm_len5 {s : PySem.Str} (h : Nm s) : s.length ≤ 100000 := by
  have := h.2.1
  omega
/-- the making's wishes, of names and rows that are right -/
theorem talB_of {H : Hp} {ns : List PySem.Str} {acc : List V} {D p : Addr} (hn : ∀ s ∈ ns, Nm s) (nd : ns.Nodup) (n8 : ns.length ≤ 8) (al : acc.length = ns.length) (hr : ∀ v ∈ acc, RowK ns.length D p H v) :
    SvAll H (some (ns.map V.str)) ∧ RsAll H (some acc) (lstAt H) ∧ talB (some (ns.map V.str)) (some acc) (lstAt H) = true := by
  refine ⟨fun xs e => ?_, fun ys e => ?_, ?_⟩
  · cases e
    refine ⟨by rw [List.length_map]; omega, fun x hx => ?_⟩
    obtain ⟨s, hs, rfl⟩ := List.mem_map.mp hx
    exact ⟨_, .str s (nm_len5 (hn s hs))⟩
  · cases e
    refine ⟨by omega, fun y hy => ?_⟩
    obtain ⟨q, zs, rfl, hq, e, zl, zm⟩ := (hr y hy).at
    rw [e]
    refine ⟨.lst hq, fun xs e => ?_⟩
    cases e
    refine ⟨by omega, fun z hz => ?_⟩
    obtain ⟨w, rfl, hw⟩ := markV_str (zm z hz)
    exact ⟨_, .str w (mkW_len hw)⟩
  · have ms : (ns.map V.str).map strV = ns := by
      rw [List.map_map]
      exact List.map_id'' (fun _ => rfl) ns
    unfold talB
    dsimp only
    rw [ms, List.length_map]
    simp only [Bool.and_eq_true, decide_eq_true_eq]
    refine ⟨n8, ?_, nd, al, List.all_eq_true.mpr fun y hy => ?_⟩
    · rw [List.all_map]
      exact List.all_eq_true.mpr fun s hs => nmB_iff.mpr (hn s hs)
    · obtain ⟨q, zs, rfl, hq, e, zl, zm⟩ := (hr y hy).at
      rw [e]
      unfold rowB
      simp only [Bool.and_eq_true, decide_eq_true_eq]
      exact ⟨zl, List.all_eq_true.mpr zm⟩
theorem strV_map (ns : List PySem.Str) : (ns.map V.str).map strV = ns := by
  rw [List.map_map]
  exact List.map_id'' (fun _ => rfl) ns
theorem kpg_lst (K : PySem.W.Frag) {X : Cx} {pos : Pos} {es : List Expr} {k : Nat} {t : TGs} {n : Nat} (hc : X.calm = true) (hp : PGs X es t)
    (hn : (assignEach es X.env).length = n := by rfl) (hst : (assignEach es X.env).findIdx? (·.1) = none := by rfl) (h : X.K = K := by rfl) : PG X (.Tuple es k pos) (gLst K n t) := by
  subst h
  exact pg_lst hc hp hn hst
/-! ### tallies while a list of them is made at D -/
/-- the heap without D -/
def wo (D : Addr) (H : Hp) : Hp := fun q => if q = D then none else H q
theorem wo_upd {D : Addr} {H : Hp} {o : HO} : wo D (upd H D o) = wo D H := by
  funext q
  unfold wo
  by_cases e : q = D
  · rw [if_pos e, if_pos e]
  · rw [if_neg e, if_neg e, upd_ne e]
theorem wo_same (D : Addr) (H : Hp) : Same (wo D H) H := fun q o e => by
  unfold wo at e
  by_cases z : q = D
  · rw [if_pos z] at e; cases e
  · rw [if_neg z] at e; exact e
/-- all but lists stays -/
def NL (H H' : Hp) : Prop := ∀ q o, H q = some o → (∀ xs, o ≠ .lst xs) → H' q = some o
theorem IsTal.nl {C : Addr} {H H' : Hp} {t : Addr} {T : TalV} (h : IsTal C H t T) (e : NL H H') : IsTal C H' t T := by
  obtain ⟨dx, a, b, ws, hI⟩ := h
  obtain ⟨u, hu, fu⟩ := hI.st
  exact ⟨dx, a, b, ws, e _ _ hI.ins (fun _ z => by cases z), ⟨u, e _ _ hu (fu.nlst), fu⟩, e _ _ hI.rk (fun _ z => by cases z), Paired.mapP hI.rows fun v r ⟨q, ev, hq⟩ => ⟨q, ev, e _ _ hq (fun _ z => by cases z)⟩⟩
theorem nl_wo {D : Addr} {H : Hp} {xs : List V} (h : H D = some (.lst xs)) : NL H (wo D H) := fun q o e n => by
  unfold wo
  rw [if_neg fun z => by
    rw [z, h] at e
    exact n xs (Option.some.inj e).symm]
  exact e
theorem nl_wo_ext {D p : Addr} {H H' : Hp} {c : Nat} (s : Src H p c) (e : Ext p H H') : NL (wo D H) (wo D H') := fun q o h n => by
  unfold wo at h ⊢
  by_cases z : q = D
  · rw [if_pos z] at h; cases h
  · rw [if_neg z] at h ⊢
    obtain ⟨g, sd, k, hp, _⟩ := s
    refine e q o (fun z => ?_) h
    rw [z, hp] at h
    exact n _ (Option.some.inj h).symm
/-- some tallies of these names -/
def Tals (C : Addr) (ns : List PySem.Str) (H : Hp) (acc : List V) (Ts : List TalV) : Prop := Paired (fun v T => ∃ t, v = V.ref t ∧ IsTal C H t T ∧ TalOk T ∧ ∀ k, k ∈ T.sts ↔ k ∈ ns) acc Ts
theorem Tals.nl {C : Addr} {ns : List PySem.Str} {H H' : Hp} {acc : List V} {Ts : List TalV} (h : Tals C ns H acc Ts) (e : NL H H') : Tals C ns H' acc Ts := Paired.mapP h fun v T ⟨t, a, b, c⟩ => ⟨t, a, b.nl e, c⟩
theorem Tals.same {C : Addr} {ns : List PySem.Str} {H H' : Hp} {acc : List V} {Ts : List TalV} (h : Tals C ns H acc Ts) (e : Same H H') : Tals C ns H' acc Ts := Paired.mapP h fun v T ⟨t, a, b, c⟩ => ⟨t, a, b.same e, c⟩
theorem nob_nm : Nm "nobody" := nm_lit (by decide +kernel)
theorem mkM_sg {R : Rk} : ∀ r ∈ mkM R, ∀ s ∈ r, ∀ c ∈ TL.tl s, Sg c := fun r hr s hs => by
  obtain ⟨l, _, rfl⟩ := List.mem_map.mp hr
  obtain ⟨k, _, rfl⟩ := List.mem_map.mp hs
  exact mkS_sg k
theorem Tals.three {C : Addr} {ns : List PySem.Str} {H : Hp} {acc : List V} {Ts : List TalV} (h : Tals C ns H acc Ts) (e : acc.length = 3) :
    ∃ t1 t2 t3 U1 U2 U3, acc = [.ref t1, .ref t2, .ref t3] ∧ (IsTal C H t1 U1 ∧ TalOk U1 ∧ ∀ k, k ∈ U1.sts ↔ k ∈ ns) ∧ (IsTal C H t2 U2 ∧ TalOk U2 ∧ ∀ k, k ∈ U2.sts ↔ k ∈ ns) ∧ IsTal C H t3 U3 ∧ TalOk U3 ∧ ∀ k, k ∈ U3.sts ↔ k ∈ ns := by
  cases h with
  | nil => cases e
  | cons a h =>
    cases h with
    | nil => cases e
    | cons b h =>
      cases h with
      | nil => cases e
      | cons c h =>
        cases h with
        | nil =>
          obtain ⟨t1, rfl, a⟩ := a
          obtain ⟨t2, rfl, b⟩ := b
          obtain ⟨t3, rfl, c⟩ := c
          exact ⟨t1, t2, t3, _, _, _, rfl, a, b, c⟩
        | cons d h => simp at e
theorem cutV_m1 (xs : List V) : cutV xs none (some (-1)) = xs.dropLast := by
  unfold cutV
  rw [List.dropLast_eq_take]
  have e : HT.sIx xs.length 0 none = 0 := rfl
  rw [e, List.drop_zero]
  have e2 : HT.sIx xs.length xs.length (some (-1)) = xs.length - 1 := by
    unfold HT.sIx
    simp
    omega
  rw [e2]
  rfl
/-- names that are not just these -/
structure Gd (nms o : List PySem.Str) : Prop where
  nm : ∀ s ∈ o, Nm s
  nd : o.Nodup
  l8 : o.length ≤ 8
  ne : ¬ ∀ k, k ∈ o ↔ k ∈ nms
section
variable {nms : List PySem.Str} (nm : ∀ s ∈ nms, Nm s) (nd : nms.Nodup) (l8 : nms.length ≤ 8) (l1 : 1 ≤ nms.length) (nob : ("nobody" : PySem.Str) ∉ nms)
include nm nd l8 l1 in
theorem gd1 : Gd nms nms.dropLast := by
  have h0 : nms ≠ [] := fun z => by rw [z] at l1; exact absurd l1 (by decide)
  refine ⟨fun s hs => nm s ((List.dropLast_sublist nms).subset hs), nd.sublist (List.dropLast_sublist _), by rw [List.length_dropLast]; omega, fun h => ?_⟩
  have e := List.dropLast_concat_getLast h0
  rw [← e] at nd
  rw [List.nodup_append] at nd
  exact nd.2.2 _ ((h _).mpr (List.getLast_mem h0)) _ (List.mem_singleton_self _) rfl
include nm nd l8 nob in
theorem gdn {o : List PySem.Str} (s : o.Sublist nms) (hl : o.length < 8) : Gd nms (o ++ [("nobody" : PySem.Str)]) := by
  refine ⟨fun z hz => ?_, ?_, by rw [List.length_append]; show o.length + 1 ≤ 8; omega, fun h => nob ((h _).mp (List.mem_append_right _ (List.mem_singleton_self _)))⟩
  · rcases List.mem_append.mp hz with hz | hz
    · exact nm z (s.subset hz)
    · rw [List.mem_singleton.mp hz]
      exact nob_nm
  · rw [List.nodup_append]
    refine ⟨nd.sublist s, by simp, fun a ha b hb e => ?_⟩
    rw [List.mem_singleton.mp hb] at e
    exact nob (by rw [← e]; exact s.subset ha)
end
theorem map_dropLast {α β : Type} (f : α → β) (xs : List α) : (xs.map f).dropLast = xs.dropLast.map f := by
  rw [List.dropLast_eq_take, List.dropLast_eq_take, List.length_map, List.map_take]
/-- lists of names, each but P -/
def NmsD (P : Addr) (H : Hp) (us : List V) (os : List (List PySem.Str)) : Prop := Paired (fun v o => ∃ q, v = V.ref q ∧ q ≠ P ∧ H q = some (.lst (o.map V.str))) us os
theorem NmsD.keep {P : Addr} {H H' : Hp} {us : List V} {os : List (List PySem.Str)} (h : NmsD P H us os) (s : Same H H') : NmsD P H' us os := Paired.mapP h fun v r ⟨q, e, n, hq⟩ => ⟨q, e, n, s _ _ hq⟩
theorem NmsD.upd {P : Addr} {H : Hp} {us : List V} {os : List (List PySem.Str)} {o : HO} (h : NmsD P H us os) : NmsD P (L2.upd H P o) us os := Paired.mapP h fun v r ⟨q, e, n, hq⟩ => ⟨q, e, n, (upd_ne n).trans hq⟩
theorem cutV_1 (xs : List V) : cutV xs (some 1) none = xs.drop 1 := cutV_dr xs 1
end Bz

namespace Bz
open PySem PySem.Spec PyProof.Rows L2
/-! ### names other than one -/
def NmN (s : PySem.Str) : Prop := Nm s ∧ s ≠ "nobody"
def spNameN (K : PySem.W.Frag) : Sp := fun vs H Q _ => ∃ (p a : Addr) (ts : List PySem.Str) (c : Nat), vs = [.ref p, .ref a] ∧ Src H p c ∧ c ≤ 900000 ∧ SqL K H a (ts.map V.str) ∧ a ≠ p ∧ ts.length ≤ 16 ∧
  ∀ (s : PySem.Str) (H' : Hp), NmN s → s ∉ ts → Go p (c + 12) H H' → Q (.str s) H'
def spNamesN : Sp := fun vs H Q _ => ∃ (p : Addr) (n : Int) (c : Nat), vs = [.ref p, .int n] ∧ Src H p c ∧ c ≤ 800000 ∧ 0 ≤ n ∧ n ≤ 16 ∧
  ∀ (q : Addr) (ns : List PySem.Str) (H' : Hp), H q = none → H' q = some (.lst (ns.map V.str)) → (∀ s ∈ ns, NmN s) → (ns.length : Int) = n → ns.Nodup → Go p (c + 12 * n.toNat) H H' → Q (.ref q) H'
theorem len_ne {s : PySem.Str} (h : s.length ≠ 6) : s ≠ "nobody" := fun e => h (by rw [e]; decide +kernel)
theorem q_ne {z : PySem.Str} : "q" ++ z ≠ ("nobody" : PySem.Str) := fun e => by
  have h := congrArg (fun s => (TL.tl s)[0]?) e
  simp only [TL.tl_append] at h
  exact absurd h (by
    have a : TL.tl ("q" : PySem.Str) = [113] := by decide +kernel
    have b : TL.tl ("nobody" : PySem.Str) = [110, 111, 98, 111, 100, 121] := by decide +kernel
    rw [a, b]
    simp)
theorem z_ne {s : PySem.Str} (h : s ∈ zNames) : s ≠ "nobody" := by
  have q : (zNames.all fun s => decide (s ≠ "nobody")) = true := by decide +kernel
  exact of_decide_eq_true (List.all_eq_true.mp q s h)
theorem mkS_at {c : Nat} (h : c ≤ 3) : (mkW.map V.str)[c]? = some (V.str (mkS c)) := by
  have : c = 0 ∨ c = 1 ∨ c = 2 ∨ c = 3 := by omega
  rcases this with rfl | rfl | rfl | rfl <;> rfl
theorem talEq {U V : TalV} : decide (U = V) = (decide (U.sts = V.sts) && decide (U.rk = V.rk)) := by
  obtain ⟨a, b⟩ := U
  obtain ⟨c, d⟩ := V
  rw [Bool.eq_iff_iff]
  simp
/-! ### settled tallies, and tallies repeated -/
def rndN (r : Nat) : Nat := if r = 0 ∨ r = 3 then r else 2
theorem rndN_le3 {r : Nat} (h : r ≤ 3) : rndN r ≤ 3 := by
  unfold rndN
  split <;> omega
theorem le_rndN {r : Nat} (h : r ≤ 3) : r ≤ rndN r := by
  unfold rndN
  split <;> omega
theorem rndN_eq {r : Nat} (h : r ≤ 3) : (if r = 1 then 2 else r) = rndN r := by
  unfold rndN
  split <;> split <;> omega
def arE (A : Rk) (i k : Nat) : Nat := max (ent A i k) (rndN (ent A k k))
def repR (n : Nat) (A : Rk) : Rk := putR n (mkR n (arE A)) A
theorem repE_le {n i j r : Nat} {A : Rk} (hi : i < n) (hj : j < n) : ent (repR n A) i j ≤ r ↔ 3 ≤ r ∨ ∃ k, k < n ∧ ent A i k ≤ r ∧ rndN (ent A k k) ≤ r ∧ ent A k j ≤ r := by
  unfold repR putR
  rw [ent_mk hi hj, putE_le]
  constructor
  · rintro (h | ⟨k, hk, h1, h2⟩)
    · exact .inl h
    · rw [ent_mk hi hk] at h1
      unfold arE at h1
      have := Nat.max_le.mp h1
      exact .inr ⟨k, hk, this.1, this.2, h2⟩
  · rintro (h | ⟨k, hk, h1, h2, h3⟩)
    · exact .inl h
    · refine .inr ⟨k, hk, ?_, h3⟩
      rw [ent_mk hi hk]
      exact Nat.max_le.mpr ⟨h1, h2⟩
def repE (n : Nat) (A : Rk) (i j : Nat) : Nat := lowN (rowN n fun k => max (arE A i k) (ent A k j))
theorem rep_mk (n : Nat) (A : Rk) : repR n A = mkR n (repE n A) := by
  unfold repR putR
  refine mkR_congr fun i j hi _ => ?_
  unfold putE repE
  exact congrArg lowN (rowN_congr fun k hk => by rw [ent_mk hi hk])
theorem rep_sq (n : Nat) (A : Rk) : Sq4 n (repR n A) := put_sq _ _ _
theorem ar_sq {n : Nat} {A : Rk} (h : Sq4 n A) : Sq4 n (mkR n (arE A)) := sq_mk fun i j => Nat.max_le.mpr ⟨h.ent i j, rndN_le3 (h.ent j j)⟩
section
variable {n : Nat} {A : Rk} (hs : putR n A A = A)
include hs
theorem set_le {i j r : Nat} (hi : i < n) (hj : j < n) : ent A i j ≤ r ↔ 3 ≤ r ∨ ∃ k, k < n ∧ ent A i k ≤ r ∧ ent A k j ≤ r := by
  have e : ent A i j = ent (putR n A A) i j := by rw [hs]
  rw [e]
  unfold putR
  rw [ent_mk hi hj]
  exact putE_le
theorem set_tr {i j k r : Nat} (hi : i < n) (hj : j < n) (hk : k < n) (h1 : ent A i k ≤ r) (h2 : ent A k j ≤ r) : ent A i j ≤ r := (set_le hs hi hj).mpr (.inr ⟨k, hk, h1, h2⟩)
theorem put_rep : putR n A (repR n A) = repR n A := by
  refine (put_sq n _ _).ext (rep_sq n _) fun i j hi hj => ?_
  refine eq_of_le fun r => ?_
  unfold putR
  rw [ent_mk hi hj, putE_le, repE_le hi hj]
  constructor
  · rintro (h | ⟨l, hl, h1, h2⟩)
    · exact .inl h
    · rcases (repE_le hl hj).mp h2 with h | ⟨k, hk, a, b, c⟩
      · exact .inl h
      · exact .inr ⟨k, hk, set_tr hs hi hk hl h1 a, b, c⟩
  · rintro (h | ⟨k, hk, a, b, c⟩)
    · exact .inl h
    · rcases (set_le hs hi hk).mp a with h | ⟨l, hl, a1, a2⟩
      · exact .inl h
      · exact .inr ⟨l, hl, a1, (repE_le hl hj).mpr (.inr ⟨k, hk, a2, b, c⟩)⟩
theorem rep_put : putR n (repR n A) A = repR n A := by
  refine (put_sq n _ _).ext (rep_sq n _) fun i j hi hj => ?_
  refine eq_of_le fun r => ?_
  rw [repE_le hi hj]
  unfold putR
  rw [ent_mk hi hj, putE_le]
  constructor
  · rintro (h | ⟨l, hl, h1, h2⟩)
    · exact .inl h
    · rcases (repE_le hi hl).mp h1 with h | ⟨k, hk, a, b, c⟩
      · exact .inl h
      · exact .inr ⟨k, hk, a, b, set_tr hs hk hj hl c h2⟩
  · rintro (h | ⟨k, hk, a, b, c⟩)
    · exact .inl h
    · rcases (set_le hs hk hj).mp c with h | ⟨l, hl, a1, a2⟩
      · exact .inl h
      · exact .inr ⟨l, hl, (repE_le hi hl).mpr (.inr ⟨k, hk, a, b, a1⟩), a2⟩
theorem rep_settled (sq : Sq4 n A) : putR n (repR n A) (repR n A) = repR n A := by
  refine (put_sq n _ _).ext (rep_sq n _) fun i j hi hj => ?_
  refine eq_of_le fun r => ?_
  rw [repE_le hi hj]
  unfold putR
  rw [ent_mk hi hj, putE_le]
  constructor
  · rintro (h | ⟨l, hl, h1, h2⟩)
    · exact .inl h
    · rcases (repE_le hi hl).mp h1 with h | ⟨k, hk, a, b, c⟩
      · exact .inl h
      · rcases (repE_le hl hj).mp h2 with h | ⟨k', hk', a', b', c'⟩
        · exact .inl h
        · exact .inr ⟨k, hk, a, b, set_tr hs hk hj hk' (set_tr hs hk hk' hl c a') c'⟩
  · rintro (h | ⟨k, hk, a, b, c⟩)
    · exact .inl h
    · have q : ent A k k ≤ r := Nat.le_trans (le_rndN (sq.ent k k)) b
      exact .inr ⟨k, hk, (repE_le hi hk).mpr (.inr ⟨k, hk, a, b, q⟩), (repE_le hk hj).mpr (.inr ⟨k, hk, q, b, c⟩)⟩
theorem rep_rep (sq : Sq4 n A) : repR n (repR n A) = repR n A := by
  refine (rep_sq n _).ext (rep_sq n _) fun i j hi hj => ?_
  refine eq_of_le fun r => ?_
  rw [repE_le hi hj, repE_le hi hj]
  constructor
  · rintro (h | ⟨k, hk, h1, _, h2⟩)
    · exact .inl h
    · rcases (repE_le hi hk).mp h1 with h | ⟨l, hl, a, b, c⟩
      · exact .inl h
      · rcases (repE_le hk hj).mp h2 with h | ⟨l', hl', a', b', c'⟩
        · exact .inl h
        · exact .inr ⟨l, hl, a, b, set_tr hs hl hj hl' (set_tr hs hl hl' hk c a') c'⟩
  · rintro (h | ⟨l, hl, a, b, c⟩)
    · exact .inl h
    · have q : ent A l l ≤ r := Nat.le_trans (le_rndN (sq.ent l l)) b
      have q2 : ent (repR n A) l l ≤ r := (repE_le hl hl).mpr (.inr ⟨l, hl, q, b, q⟩)
      refine .inr ⟨l, hl, (repE_le hi hl).mpr (.inr ⟨l, hl, a, b, q⟩), ?_, (repE_le hl hj).mpr (.inr ⟨l, hl, q, b, c⟩)⟩
      have q3 : ent A l l ≤ 3 := sq.ent l l
      unfold rndN at b ⊢
      by_cases h2 : 2 ≤ r
      · have := (rep_sq n A).ent l l
        split <;> omega
      · have h0 : ent A l l = 0 := by
          split at b
          · omega
          · omega
        have q4 : ent (repR n A) l l ≤ 0 := (repE_le hl hl).mpr (.inr ⟨l, hl, by omega, by rw [h0]; decide, by omega⟩)
        rw [if_pos (by omega)]
        omega
end
theorem nuMax_int (i j : Nat) : nuMax2 (.int (i : Nat)) (.int (j : Nat)) = some (.int (max i j : Nat)) := by
  unfold nuMax2 nuLt nuCB
  show some (if decide ((i : Int) < (j : Nat)) = true then V.int (j : Nat) else V.int (i : Nat)) = _
  by_cases h : i < j
  · rw [if_pos (decide_eq_true (by omega))]
    have : max i j = j := by omega
    rw [this]
  · rw [if_neg (by intro z; have := of_decide_eq_true z; omega)]
    have : max i j = i := by omega
    rw [this]
/-- max of three whole numbers that are none below 0 -/
def rMax3 : List V → Hp → VK → Prop := fun xs H Q => ∃ i j k : Nat, xs = [.int (i : Nat), .int (j : Nat), .int (k : Nat)] ∧ Q (.int (max (max i j) k : Nat)) H
theorem call_max3 {X : Cx} (hc : X.calm = true) : CallR X (.builtin "max") rMax3 := by
  intro pins s σ H vs us Q I r h
  obtain ⟨i, j, k, e, q⟩ := h
  refine call_max3Nu hc pins s σ H vs us Q I r ⟨_, _, _, _, e, ?_, q⟩
  unfold nuMax3
  rw [nuMax_int]
  exact nuMax_int _ _
def spSettled (C : Addr) : Sp := fun vs H Q _ => ∃ (t : Addr) (T : TalV), vs = [.ref t] ∧ IsTal C H t T ∧ TalOk T ∧ 1 ≤ T.sts.length ∧ ∀ H', Same H H' → Q (.bl (decide (putR T.sts.length T.rk T.rk = T.rk))) H'
def spRound : Sp := fun vs H Q _ => ∃ r : Nat, vs = [.int (r : Nat)] ∧ r ≤ 3 ∧ ∀ H', Same H H' → Q (.int (rndN r : Nat)) H'
def spRepeat : Sp := fun vs H Q _ => ∃ (a : Addr) (ws : List V) (R : Rk) (n : Nat), vs = [.ref a] ∧ H a = some (.tup ws) ∧ RkS H ws R ∧ Sq4 n R ∧ 1 ≤ n ∧ n ≤ 8 ∧
  ∀ (q : Addr) (vs : List V) (H' : Hp), H q = none → H' q = some (.tup vs) → RkS H' vs (repR n R) → Same H H' → Q (.ref q) H'
def spRepeated (C X : Addr) : Sp := fun vs H Q E => ∃ (t : Addr) (T : TalV), vs = [.ref t] ∧ IsTal C H t T ∧ TalOk T ∧ 1 ≤ T.sts.length ∧
  (putR T.sts.length T.rk T.rk = T.rk → ∀ (q : Addr) (H' : Hp), H q = none → IsTal C H' q ⟨T.sts, repR T.sts.length T.rk⟩ → Same H H' → Q (.ref q) H') ∧
  (putR T.sts.length T.rk T.rk ≠ T.rk → ∀ H' d, Same H H' → H' d = none → E (.ref X) (some d) (upd H' d (.xd [(("part" : PySem.Str), V.str "")])))
/-- the law's own -/
def spLSettled : Sp := fun vs H Q _ => ∃ (a : Addr) (ws : List V) (A : Rk) (n : Nat), vs = [.ref a] ∧ H a = some (.tup ws) ∧ RkS H ws A ∧ Sq4 n A ∧ 1 ≤ n ∧ n ≤ 8 ∧ ∀ H', Same H H' → Q (.bl (decide (putR n A A = A))) H'
def spLRep : Sp := fun vs H Q _ => ∃ (a : Addr) (ws : List V) (A : Rk) (n : Nat), vs = [.ref a] ∧ H a = some (.tup ws) ∧ RkS H ws A ∧ Sq4 n A ∧ 1 ≤ n ∧ n ≤ 8 ∧
  ∀ (q : Addr) (vs : List V) (H' : Hp), H q = none → H' q = some (.tup vs) → RkS H' vs (repR n A) → Same H H' → Q (.ref q) H'
def spLToldR (C : Addr) : Sp := fun vs H Q _ => ∃ (t : Addr) (T : TalV), vs = [.ref t] ∧ IsTal C H t T ∧ TalOk T ∧ 1 ≤ T.sts.length ∧
  (putR T.sts.length T.rk T.rk = T.rk → ∀ (q : Addr) (H' : Hp), H q = none → IsTal C H' q ⟨T.sts, repR T.sts.length T.rk⟩ → Same H H' → Q (.ref q) H') ∧
  (putR T.sts.length T.rk T.rk ≠ T.rk → ∀ q H', Same H H' → H' q = some (.tup [.str "not", .str ""]) → Q (.ref q) H')
/-! ### rows, lists, while a list of them is made at D -/
def RowL {α : Type} (g : α → List V) (D : Addr) (H : Hp) (ws : List V) (R : List α) : Prop := Paired (fun v r => ∃ q, v = V.ref q ∧ q ≠ D ∧ H q = some (.lst (g r))) ws R
section
variable {α : Type} {g : α → List V} {D : Addr} {H H' : Hp} {ws : List V} {R : List α} {o : HO} {q : Addr} {x : α}
theorem RowL.upd (h : RowL g D H ws R) : RowL g D (L2.upd H D o) ws R := Paired.mapP h fun v r ⟨q, e, n, hq⟩ => ⟨q, e, n, (upd_ne n).trans hq⟩
theorem RowL.keep (h : RowL g D H ws R) (s : Same H H') : RowL g D H' ws R := Paired.mapP h fun v r ⟨q, e, n, hq⟩ => ⟨q, e, n, s _ _ hq⟩
theorem RowL.snoc (h : RowL g D H ws R) (n : q ≠ D) (e : H q = some (.lst (g x))) : RowL g D H (ws ++ [.ref q]) (R ++ [x]) := paired_snoc h ⟨q, rfl, n, e⟩
end
theorem RowL.rke {K : PySem.W.Frag} {D : Addr} {H : Hp} {ws : List V} {R : Rk} (h : RowL gI D H ws R) : RkE K H ws R := Paired.mapP h fun v r ⟨q, e, _, hq⟩ => ⟨q, e, .inl (SqL.of hq)⟩
/-- the rank of an entry -/
theorem ent_row {A : Rk} {r : List Nat} {i k : Nat} (h : A[i]? = some r) : r.getD k 3 = ent A i k := by
  unfold ent
  rw [getD_of h]
end Bz

namespace Bz
open PySem PySem.Spec PyProof.Rows L2
/-! ### what stands in the heap, lists and tuples within one another -/
mutual
inductive Nd (H : Hp) : V → PyData → Prop
  | non : Nd H .non .none
  | bl (b : Bool) : Nd H (.bl b) (.bool b)
  | int (i : Int) : Nd H (.int i) (.int i)
  | str (s : PySem.Str) (h : s.length ≤ 100000) : Nd H (.str s) (.str s)
  | lst {a : Addr} {xs : List V} {ds : List PyData} (e : H a = some (.lst xs)) (l : xs.length ≤ 1000) (h : NdAll H xs ds) : Nd H (.ref a) (.list ds)
  | tup {a : Addr} {xs : List V} {ds : List PyData} (e : H a = some (.tup xs)) (l : xs.length ≤ 1000) (h : NdAll H xs ds) : Nd H (.ref a) (.tuple ds)
  | dct {a : Addr} (e : H a = some (.dK [])) : Nd H (.ref a) (.dict [])
  | ftp {a : Addr} {xs : List V} {ds : List PyData} (e : FzT H a xs) (l : xs.length ≤ 1000) (h : NdAll H xs ds) : Nd H (.ref a) (.tuple ds)
inductive NdAll (H : Hp) : List V → List PyData → Prop
  | nil : NdAll H [] []
  | cons {v : V} {vs : List V} {d : PyData} {ds : List PyData} (a : Nd H v d) (r : NdAll H vs ds) : NdAll H (v :: vs) (d :: ds)
end
section
variable {H H' : Hp}
mutual
theorem Nd.same (s : Same H H') : ∀ (d : PyData) (v : V), Nd H v d → Nd H' v d
  | .none, _, .non => .non
  | .bool _, _, .bl b => .bl b
  | .int _, _, .int i => .int i
  | .str _, _, .str s h => .str s h
  | .list ds, _, .lst (xs := xs) e l h => .lst (s _ _ e) l (NdAll.same s ds xs h)
  | .tuple ds, _, .tup (xs := xs) e l h => .tup (s _ _ e) l (NdAll.same s ds xs h)
  | .dict _, _, .dct e => .dct (s _ _ e)
  | .tuple ds, _, .ftp (xs := xs) e l h => .ftp (e.on s) l (NdAll.same s ds xs h)
theorem NdAll.same (s : Same H H') : ∀ (ds : List PyData) (vs : List V), NdAll H vs ds → NdAll H' vs ds
  | [], _, .nil => .nil
  | d :: ds, _, .cons (v := v) (vs := vs) a r => .cons (Nd.same s d v a) (NdAll.same s ds vs r)
end
theorem Nd.on {d : PyData} {v : V} (h : Nd H v d) (s : Same H H') : Nd H' v d := Nd.same s d v h
theorem NdAll.on {ds : List PyData} {vs : List V} (h : NdAll H vs ds) (s : Same H H') : NdAll H' vs ds := NdAll.same s ds vs h
theorem NdAll.len {ds : List PyData} {vs : List V} (h : NdAll H vs ds) : vs.length = ds.length := by
  induction vs generalizing ds with
  | nil => cases h; rfl
  | cons v vs ih => cases h with | cons a r => simp [ih r]
theorem NdAll.mem {ds : List PyData} {vs : List V} (h : NdAll H vs ds) : ∀ v ∈ vs, ∃ d, Nd H v d := by
  induction vs generalizing ds with
  | nil => intro v hv; cases hv
  | cons v vs ih =>
    cases h with
    | cons a r =>
      intro z hz
      rcases List.mem_cons.mp hz with rfl | hz
      · exact ⟨_, a⟩
      · exact ih r z hz
end
theorem nd_lst {H : Hp} {p : Addr} {xs : List V} {ds : List PyData} (hp : H p = none) (h : NdAll H xs ds) (l : xs.length ≤ 1000) : Nd (upd H p (.lst xs)) (.ref p) (.list ds) := .lst upd_same l (h.on (same_new hp))
theorem nd_tup {H : Hp} {p : Addr} {xs : List V} {ds : List PyData} (hp : H p = none) (h : NdAll H xs ds) (l : xs.length ≤ 1000) : Nd (upd H p (.tup xs)) (.ref p) (.tuple ds) := .tup upd_same l (h.on (same_new hp))
def seqAt (H : Hp) (v : V) : Option (List V) := match v with
  | .ref a => match H a with
    | some (.lst xs) => some xs
    | some (.tup xs) => some xs
    | some (.frz _ (.tup xs)) => some xs
    | _ => none
  | _ => none
theorem FzT.seqAt {H : Hp} {a : Addr} {xs : List V} (h : FzT H a xs) : seqAt H (.ref a) = some xs := by
  obtain ⟨u, e, o, rfl, _⟩ := h
  unfold Bz.seqAt
  simp only [e]
def seqD : PyData → Option (List PyData)
  | .list xs => some xs
  | .tuple xs => some xs
  | _ => none
def nameD : PyData → Bool
  | .str s => nmB s
  | _ => false
def markD : PyData → Bool
  | .str s => decide (s ∈ mkW)
  | _ => false
def strD : PyData → PySem.Str
  | .str s => s
  | _ => ""
def rowDD (d : PyData) (n : Nat) : Bool := match seqD d with
  | some xs => decide (xs.length = n) && xs.all markD
  | none => false
def talD (d1 d2 : PyData) : Bool := match seqD d1, seqD d2 with
  | some xs, some ys => decide (xs.length ≤ 8) && (xs.all nameD && (decide (xs.map strD).Nodup && (decide (ys.length = xs.length) && ys.all fun y => rowDD y xs.length)))
  | _, _ => false
section
variable {H : Hp}
theorem Nd.kn {v : V} {d : PyData} (h : Nd H v d) : ∃ t, Kn H v t := by
  cases h with
  | non => exact ⟨_, .non⟩
  | bl b => exact ⟨_, .bl b⟩
  | int i => exact ⟨_, .int i⟩
  | str s h => exact ⟨_, .str s h⟩
  | lst e _ _ => exact ⟨_, .lst e⟩
  | tup e _ _ => exact ⟨_, .tup e⟩
  | dct e => exact ⟨_, .dct e⟩
  | ftp e _ _ => exact ⟨_, .ftp e⟩
theorem Nd.seq {v : V} {d : PyData} (h : Nd H v d) : (seqD d = none ∧ seqAt H v = none) ∨ ∃ xs ds, seqD d = some ds ∧ seqAt H v = some xs ∧ NdAll H xs ds ∧ xs.length ≤ 1000 := by
  cases h with
  | non => exact .inl ⟨rfl, rfl⟩
  | bl b => exact .inl ⟨rfl, rfl⟩
  | int i => exact .inl ⟨rfl, rfl⟩
  | str s h => exact .inl ⟨rfl, rfl⟩
  | lst e l h => exact .inr ⟨_, _, rfl, by unfold seqAt; simp only [e], h, l⟩
  | tup e l h => exact .inr ⟨_, _, rfl, by unfold seqAt; simp only [e], h, l⟩
  | dct e => exact .inl ⟨rfl, by unfold seqAt; simp only [e]⟩
  | ftp e l h => exact .inr ⟨_, _, rfl, e.seqAt, h, l⟩
theorem Nd.sv {v : V} {d : PyData} (h : Nd H v d) : Sv H v (seqAt H v) := by
  cases h with
  | non => exact .no .non (by decide) (by decide)
  | bl b => exact .no (.bl b) (by decide) (by decide)
  | int i => exact .no (.int i) (by decide) (by decide)
  | str s h => exact .no (.str s h) (by decide) (by decide)
  | lst e l h => unfold seqAt; simp only [e]; exact .lst e
  | tup e l h => unfold seqAt; simp only [e]; exact .tup e
  | dct e => unfold seqAt; simp only [e]; exact .no (.dct e) (by decide) (by decide)
  | ftp e l h => rw [e.seqAt]; exact .ftp e
theorem Nd.svall {v : V} {d : PyData} (h : Nd H v d) : SvAll H (seqAt H v) := by
  intro xs e
  rcases h.seq with ⟨_, z⟩ | ⟨ys, ds, _, z, q, l⟩
  · rw [z] at e; cases e
  · rw [z] at e
    obtain rfl := Option.some.inj e
    exact ⟨l, fun x hx => by
      obtain ⟨d, hd⟩ := q.mem x hx
      exact hd.kn⟩
theorem Nd.rsall {v : V} {d : PyData} (h : Nd H v d) : RsAll H (seqAt H v) (seqAt H) := by
  intro xs e
  rcases h.seq with ⟨_, z⟩ | ⟨ys, ds, _, z, q, l⟩
  · rw [z] at e; cases e
  · rw [z] at e
    obtain rfl := Option.some.inj e
    exact ⟨l, fun x hx => by
      obtain ⟨d, hd⟩ := q.mem x hx
      exact ⟨hd.sv, hd.svall⟩⟩
theorem Nd.nameV {v : V} {d : PyData} (h : Nd H v d) : nameV v = nameD d := by cases h <;> rfl
theorem Nd.markV {v : V} {d : PyData} (h : Nd H v d) : markV v = markD d := by cases h <;> rfl
theorem Nd.strV {v : V} {d : PyData} (h : Nd H v d) : strV v = strD d := by cases h <;> rfl
theorem NdAll.all {f : V → Bool} {g : PyData → Bool} (fg : ∀ v d, Nd H v d → f v = g d) : ∀ {vs : List V} {ds : List PyData}, NdAll H vs ds → vs.all f = ds.all g
  | _, _, .nil => rfl
  | _, _, .cons a r => by simp only [List.all_cons, fg _ _ a, NdAll.all fg r]
theorem NdAll.strs : ∀ {vs : List V} {ds : List PyData}, NdAll H vs ds → vs.map Bz.strV = ds.map strD
  | _, _, .nil => rfl
  | _, _, .cons a r => by simp only [List.map_cons, a.strV, NdAll.strs r]
theorem Nd.row {v : V} {d : PyData} (h : Nd H v d) (n : Nat) : rowB (seqAt H v) n = rowDD d n := by
  unfold rowDD
  rcases h.seq with ⟨a, z⟩ | ⟨ys, ds, a, z, q, l⟩
  · rw [a, z]; rfl
  · rw [a, z]
    show (decide (ys.length = n) && ys.all Bz.markV) = _
    rw [q.len, q.all fun v d h => h.markV]
theorem talB_nd {v1 v2 : V} {d1 d2 : PyData} (h1 : Nd H v1 d1) (h2 : Nd H v2 d2) : talB (seqAt H v1) (seqAt H v2) (seqAt H) = talD d1 d2 := by
  unfold talD
  rcases h1.seq with ⟨a, z⟩ | ⟨xs, ds, a, z, q, l⟩
  · rw [a, z]; rfl
  · rcases h2.seq with ⟨b, y⟩ | ⟨ys, es, b, y, r, k⟩
    · rw [a, z, b, y]; rfl
    · rw [a, z, b, y]
      show (decide (xs.length ≤ 8) && (xs.all Bz.nameV && (decide (xs.map Bz.strV).Nodup && (decide (ys.length = xs.length) && ys.all fun y => rowB (seqAt H y) xs.length)))) = _
      rw [q.len, q.all fun v d h => h.nameV, q.strs, r.len, r.all fun v d h => h.row _]
end
theorem nd_snoc {H : Hp} {v : V} {d : PyData} (a : Nd H v d) : ∀ {vs : List V} {ds : List PyData}, NdAll H vs ds → NdAll H (vs ++ [v]) (ds ++ [d])
  | _, _, .nil => .cons a .nil
  | _, _, .cons b r => .cons b (nd_snoc a r)
theorem wo_mono {D : Addr} {H H' : Hp} (s : Same H H') : Same (wo D H) (wo D H') := fun q o e => by
  unfold wo at e ⊢
  split at e
  · cases e
  · rename_i h
    rw [if_neg h]
    exact s _ _ e
theorem nd_nt {H : Hp} {v : V} {d : PyData} (h : Nd H v d) (hd : ∀ ds, d ≠ .tuple ds) : ∀ a xs, v = .ref a → H a ≠ some (.tup xs) := fun a xs e z => by
  cases h with
  | lst e' _ _ => cases e; rw [e'] at z; cases z
  | dct e' => cases e; rw [e'] at z; cases z
  | tup e' _ _ => exact hd _ rfl
  | ftp e' _ _ => exact hd _ rfl
  | _ => cases e
/-- 'told' or 'bad' -/
def tellD (d1 d2 : PyData) : PySem.Str := if talD d1 d2 = true then "told" else "bad"
def spLToldB : Sp := fun vs H Q _ => ∃ (v1 v2 : V) (d1 d2 : PyData), vs = [v1, v2] ∧ (∀ a xs, v1 = .ref a → H a ≠ some (.tup xs)) ∧ Nd H v1 d1 ∧ Nd H v2 d2 ∧ ∀ H', Same H H' → Q (.str (tellD d1 d2)) H'
end Bz

namespace Bz
open PySem PySem.Spec PyProof.Rows L2
theorem kpe_fld (K : PySem.W.Frag) {X : Cx} {e : Expr} {f : PySem.Str} {pos : Pos} {ta : TE} (he : PE X e ta) (hb : attributeBase e f X.env (eval e X.env) = eval e X.env := by rfl) (h : X.K = K := by rfl) : PE X (.Attribute e f pos) (tFld K ta f) := by
  subst h
  exact pe_fld he hb
/-! ### rows and states that may be wrong -/
def rowVB : V → Bool
  | .str s => decide (s.length ≤ 5000) && (decide (s = "") || onlyB s)
  | _ => false
theorem rowVB_iff {s : PySem.Str} : rowVB (.str s) = true ↔ RowOk s := by
  unfold rowVB RowOk onlyB
  simp only [Bool.and_eq_true, Bool.or_eq_true, decide_eq_true_eq, List.all_eq_true]
  constructor
  · rintro ⟨h1, h2 | ⟨_, h2⟩⟩
    · refine ⟨h1, fun c hc => ?_⟩
      rw [h2] at hc
      have z : TL.tl ("" : PySem.Str) = [] := by decide +kernel
      rw [z] at hc
      cases hc
    · exact ⟨h1, fun c hc => h2 c hc⟩
  · rintro ⟨h1, h2⟩
    refine ⟨h1, ?_⟩
    by_cases e : s = ""
    · exact .inl e
    · refine .inr ⟨?_, fun c hc => h2 c hc⟩
      have : s.length ≠ 0 := fun e0 => e (by
        refine ext_tl ?_
        have q := len_tl s
        rw [e0] at q
        rw [List.length_eq_zero_iff.mp q.symm]
        decide +kernel)
      omega
def spIsRowX : Sp := fun vs H Q _ => ∃ (v : V) (t : String), vs = [v] ∧ Kn H v t ∧ Q (.bl (rowVB v)) H
def spCheckRowX (C : Addr) : Sp := fun vs H Q E => ∃ (v : V) (t : String), vs = [v] ∧ Kn H v t ∧ (rowVB v = true → Q .non H) ∧
  (rowVB v = false → ∀ d, H d = none → E (.ref C) (some d) (upd H d (.xd [(("row" : PySem.Str), v)])))
def stB (ss : List PySem.Str) : V → Bool
  | .str s => decide (s ∈ ss)
  | _ => false
def spCheckStX (K : PySem.W.Frag) (C : Addr) : Sp := fun vs H Q E => ∃ (a : Addr) (ss : List PySem.Str) (v : V) (t : String), vs = [.ref a, v] ∧ SqT K H a (ss.map V.str) ∧ Kn H v t ∧ (stB ss v = true → Q .non H) ∧
  (stB ss v = false → ∀ d, H d = none → E (.ref C) (some d) (upd H d (.xd [(("state" : PySem.Str), v)])))
theorem stB_str {ss : List PySem.Str} {v : V} (h : stB ss v = true) : ∃ s, v = .str s ∧ s ∈ ss := by
  cases v with
  | str s => exact ⟨s, rfl, of_decide_eq_true h⟩
  | _ => cases h
theorem stB_all {ss : List PySem.Str} : ∀ {xs : List V}, (∀ v ∈ xs, stB ss v = true) → ∃ zs : List PySem.Str, xs = zs.map V.str ∧ ∀ z ∈ zs, z ∈ ss
  | [], _ => ⟨[], rfl, fun z h => by cases h⟩
  | x :: xs, h => by
    obtain ⟨s, rfl, hs⟩ := stB_str (h x (List.mem_cons_self ..))
    obtain ⟨zs, rfl, hz⟩ := stB_all fun v hv => h v (List.mem_cons_of_mem _ hv)
    exact ⟨s :: zs, rfl, fun z h => (List.mem_cons.mp h).elim (fun e => by rw [e]; exact hs) (hz z)⟩
/-! ### the least mark between some states -/
def placeT (T : TalV) (s : PySem.Str) : Nat := T.sts.idxOf s
def btwR (T : TalV) (ss es : List PySem.Str) : List Nat := ss.flatMap fun s => es.map fun e => ent T.rk (placeT T s) (placeT T e)
theorem btw_snoc {T : TalV} {ss es : List PySem.Str} {s : PySem.Str} : btwR T (ss ++ [s]) es = btwR T ss es ++ es.map fun e => ent T.rk (placeT T s) (placeT T e) := by
  unfold btwR
  rw [List.flatMap_append]
  simp
theorem btw_len (T : TalV) (ss es : List PySem.Str) : (btwR T ss es).length = ss.length * es.length := by
  unfold btwR
  induction ss with
  | nil => simp
  | cons s ss ih => rw [List.flatMap_cons, List.length_append, ih, List.length_map, List.length_cons, Nat.succ_mul, Nat.add_comm]
def spBetweenX (K : PySem.W.Frag) (C X : Addr) : Sp := fun vs H Q E => ∃ (t a b : Addr) (T : TalV) (xs ys : List V), vs = [.ref t, .ref a, .ref b] ∧ IsTal C H t T ∧ TalOk T ∧ SqE K H a xs ∧ SqE K H b ys ∧ xs.length ≤ 100 ∧ ys.length ≤ 100 ∧ (∀ v ∈ xs ++ ys, ∃ ty, Kn H v ty) ∧
  (∀ ss es, xs = ss.map V.str → ys = es.map V.str → (∀ s ∈ ss, s ∈ T.sts) → (∀ s ∈ es, s ∈ T.sts) → ∀ H', Same H H' → Q (.str (mkS (lowN (btwR T ss es)))) H') ∧
  (∀ (i : Nat) (v : V), (xs ++ ys)[i]? = some v → stB T.sts v = false → (∀ u ∈ (xs ++ ys).take i, stB T.sts u = true) → ∀ H' d, Same H H' → H' d = none → E (.ref X) (some d) (upd H' d (.xd [(("state" : PySem.Str), v)])))
/-- t.at(s, u) -/
def spAtX (C X : Addr) : Sp := fun vs H Q E => ∃ (t : Addr) (T : TalV) (v1 v2 : V) (t1 t2 : String), vs = [.ref t, v1, v2] ∧ IsTal C H t T ∧ TalOk T ∧ Kn H v1 t1 ∧ Kn H v2 t2 ∧
  (∀ s u, v1 = .str s → v2 = .str u → s ∈ T.sts → u ∈ T.sts → ∀ H', Same H H' → Q (.str (mkS (ent T.rk (placeT T s) (placeT T u)))) H') ∧
  (∀ v, (v = v1 ∧ stB T.sts v1 = false) ∨ (v = v2 ∧ stB T.sts v1 = true ∧ stB T.sts v2 = false) → ∀ H' d, Same H H' → H' d = none → E (.ref X) (some d) (upd H' d (.xd [(("state" : PySem.Str), v)])))
/-! ### tallies of rows -/
def rankO : Option Int → Nat
  | none => 3
  | some n => if n = 0 then 0 else 1
theorem rankO_le (o : Option Int) : rankO o ≤ 3 := by
  unfold rankO
  split
  · omega
  · split <;> omega
def spRankOf : Sp := fun vs H Q _ => ∃ o : Option Int, vs = [optV o] ∧ ∀ H', Same H H' → Q (.int (rankO o : Nat)) H'
/-- R has the ranks of the row for M -/
def RowR (M : MachV) (row : PySem.Str) (R : Rk) : Prop := Sq4 M.sta.length R ∧ ∀ i j s u, M.sta[i]? = some s → M.sta[j]? = some u → ∃ o, LPr M.ars [s] [u] (sgnL row) o ∧ ent R i j = rankO o
def spTallyOf (C CM BR : Addr) : Sp := fun vs H Q E => ∃ (m : Addr) (M : MachV) (v : V) (t : String), vs = [.ref m, v] ∧ IsMach CM H m M ∧ MGood M ∧ M.sta.length ≤ 8 ∧ Kn H v t ∧
  (∀ row, v = .str row → RowOk row → ∀ (t : Addr) (R : Rk) (H' : Hp), H t = none → IsTal C H' t ⟨M.sta, R⟩ → RowR M row R → Same H H' → Q (.ref t) H') ∧
  (rowVB v = false → ∀ H' d, Same H H' → H' d = none → E (.ref BR) (some d) (upd H' d (.xd [(("row" : PySem.Str), v)])))
end Bz

namespace Bz
open PySem PySem.Spec PyProof.Rows L2
/-! ### tallies of rows: the mathematics -/
theorem least_exx {P : Int → Prop} (h : ∀ n, P n → 0 ≤ n) : ∃ o, LeastO P o := by
  have key : ∀ k : Nat, (∃ n, P n ∧ n.toNat ≤ k) → ∃ m, P m ∧ ∀ n, P n → m ≤ n := by
    intro k
    induction k with
    | zero =>
      rintro ⟨n, hn, hk⟩
      have := h n hn
      exact ⟨n, hn, fun m hm => by have := h m hm; omega⟩
    | succ k ih =>
      rintro ⟨n, hn, hk⟩
      by_cases c : ∃ m, P m ∧ m.toNat ≤ k
      · exact ih c
      · refine ⟨n, hn, fun m hm => ?_⟩
        have h1 := h m hm
        have h2 := h n hn
        have : ¬ m.toNat ≤ k := fun z => c ⟨m, hm, z⟩
        omega
  by_cases c : ∃ n, P n
  · obtain ⟨n, hn⟩ := c
    obtain ⟨m, a, b⟩ := key n.toNat ⟨n, hn, Nat.le_refl _⟩
    exact ⟨some m, a, b⟩
  · exact ⟨none, fun n hn => c ⟨n, hn⟩⟩
section
variable {xs : List Arw} (h0 : ∀ x ∈ xs, 0 ≤ x.c)
include h0
theorem run_posx : ∀ (ls : List PySem.Str) (a b : PySem.Str) (n : Int), RunS xs ls a b n → 0 ≤ n
  | [], a, b, n, h => by
    obtain ⟨_, rfl⟩ := h
    exact Int.le_refl _
  | l :: ls, a, b, n, h => by
    obtain ⟨x, hx, _, _, m, hm, rfl⟩ := h
    have := run_posx ls _ _ _ hm
    have := h0 x hx
    omega
theorem lpr_exx (ls : List PySem.Str) (s u : PySem.Str) : ∃ o, LPr xs [s] [u] ls o := least_exx fun n ⟨_, _, _, _, h⟩ => run_posx h0 ls _ _ n h
theorem rank_le {ls : List PySem.Str} {s u : PySem.Str} {o : Option Int} (h : LPr xs [s] [u] ls o) (r : Nat) : rankO o ≤ r ↔ 3 ≤ r ∨ (1 ≤ r ∧ ∃ n, RunS xs ls s u n) ∨ RunS xs ls s u 0 := by
  have sg : ∀ n, (∃ a ∈ [s], ∃ b ∈ [u], RunS xs ls a b n) ↔ RunS xs ls s u n := fun n => by simp
  cases o with
  | none =>
    have no : ∀ n, ¬ RunS xs ls s u n := fun n hn => h n ((sg n).mpr hn)
    constructor
    · intro hr
      exact .inl hr
    · rintro (h | ⟨_, n, h⟩ | h)
      · exact h
      · exact absurd h (no n)
      · exact absurd h (no 0)
  | some m =>
    obtain ⟨h1, h2⟩ := h
    have h1 := (sg m).mp h1
    have hm := run_posx h0 ls _ _ m h1
    unfold rankO
    by_cases e : m = 0
    · subst e
      simp only [if_pos]
      exact ⟨fun _ => .inr (.inr h1), fun _ => Nat.zero_le _⟩
    · simp only [if_neg e]
      constructor
      · intro hr
        exact .inr (.inl ⟨hr, m, h1⟩)
      · rintro (h | ⟨h, _⟩ | h)
        · omega
        · exact h
        · have := h2 0 ((sg 0).mpr h)
          omega
end
def RowM (M : MachV) (ls : List PySem.Str) (R : Rk) : Prop := Sq4 M.sta.length R ∧ ∀ i j s u, M.sta[i]? = some s → M.sta[j]? = some u → ∃ o, LPr M.ars [s] [u] ls o ∧ ent R i j = rankO o
theorem rowR_iff {M : MachV} {row : PySem.Str} {R : Rk} : RowR M row R ↔ RowM M (sgnL row) R := Iff.rfl
theorem RowM.uniq {M : MachV} {ls : List PySem.Str} {A B : Rk} (a : RowM M ls A) (b : RowM M ls B) : A = B := by
  refine a.1.ext b.1 fun i j hi hj => ?_
  obtain ⟨o, ho, e⟩ := a.2 i j _ _ (List.getElem?_eq_getElem hi) (List.getElem?_eq_getElem hj)
  obtain ⟨o', ho', e'⟩ := b.2 i j _ _ (List.getElem?_eq_getElem hi) (List.getElem?_eq_getElem hj)
  rw [e, e', LPr.uniq ho ho']
theorem run_in {M : MachV} (f : MFine M) : ∀ (ls : List PySem.Str) (a b : PySem.Str) (n : Int), RunS M.ars ls a b n → a ∈ M.sta → b ∈ M.sta
  | [], a, b, n, h, ha => by
    obtain ⟨rfl, _⟩ := h
    exact ha
  | l :: ls, a, b, n, h, ha => by
    obtain ⟨x, hx, _, _, m, hm, rfl⟩ := h
    exact run_in f ls _ _ _ hm (f.ar x hx).2
theorem RowM.app {M : MachV} (f : MFine M) {l1 l2 : List PySem.Str} {A B : Rk} (a : RowM M l1 A) (b : RowM M l2 B) : RowM M (l1 ++ l2) (putR M.sta.length A B) := by
  have h0 : ∀ x ∈ M.ars, 0 ≤ x.c := fun x hx => (f.ok x hx).c0
  refine ⟨put_sq _ _ _, fun i j s u hs hu => ?_⟩
  obtain ⟨o, ho⟩ := lpr_exx h0 (l1 ++ l2) s u
  refine ⟨o, ho, ?_⟩
  have hi := (List.getElem?_eq_some_iff.mp hs).1
  have hj := (List.getElem?_eq_some_iff.mp hu).1
  refine eq_of_le fun r => ?_
  unfold putR
  rw [ent_mk hi hj, putE_le, rank_le h0 ho]
  have step : ∀ k c, M.sta[k]? = some c → ((ent A i k ≤ r ∧ ent B k j ≤ r) ↔ (3 ≤ r ∨ (1 ≤ r ∧ ∃ n, RunS M.ars l1 s c n) ∨ RunS M.ars l1 s c 0) ∧ (3 ≤ r ∨ (1 ≤ r ∧ ∃ n, RunS M.ars l2 c u n) ∨ RunS M.ars l2 c u 0)) := fun k c hc => by
    obtain ⟨o1, ho1, e1⟩ := a.2 i k s c hs hc
    obtain ⟨o2, ho2, e2⟩ := b.2 k j c u hc hu
    rw [e1, e2, rank_le h0 ho1, rank_le h0 ho2]
  constructor
  · rintro (h | ⟨k, hk, h⟩)
    · exact .inl h
    · obtain ⟨q1, q2⟩ := (step k _ (List.getElem?_eq_getElem hk)).mp h
      rcases q1 with q1 | q1 | q1
      · exact .inl q1
      · rcases q2 with q2 | q2 | q2
        · exact .inl q2
        · obtain ⟨r1, n1, h1⟩ := q1
          obtain ⟨_, n2, h2⟩ := q2
          exact .inr (.inl ⟨r1, _, (run_app _ _ _ _).mpr ⟨_, n1, n2, h1, h2, rfl⟩⟩)
        · obtain ⟨r1, n1, h1⟩ := q1
          exact .inr (.inl ⟨r1, _, (run_app _ _ _ _).mpr ⟨_, n1, 0, h1, q2, rfl⟩⟩)
      · rcases q2 with q2 | q2 | q2
        · exact .inl q2
        · obtain ⟨r2, n2, h2⟩ := q2
          exact .inr (.inl ⟨r2, _, (run_app _ _ _ _).mpr ⟨_, 0, n2, q1, h2, rfl⟩⟩)
        · exact .inr (.inr ((run_app _ _ _ _).mpr ⟨_, 0, 0, q1, q2, rfl⟩))
  · have ms : s ∈ M.sta := List.mem_of_getElem? hs
    rintro (h | ⟨r1, n, h⟩ | h)
    · exact .inl h
    · obtain ⟨c, x, y, h1, h2, _⟩ := (run_app _ _ _ _).mp h
      obtain ⟨k, hk⟩ := List.getElem?_of_mem (run_in f _ _ _ _ h1 ms)
      exact .inr ⟨k, (List.getElem?_eq_some_iff.mp hk).1, (step k c hk).mpr ⟨.inr (.inl ⟨r1, x, h1⟩), .inr (.inl ⟨r1, y, h2⟩)⟩⟩
    · obtain ⟨c, x, y, h1, h2, e⟩ := (run_app _ _ _ _).mp h
      have p1 := run_posx h0 _ _ _ _ h1
      have p2 := run_posx h0 _ _ _ _ h2
      have ex : x = 0 := by omega
      have ey : y = 0 := by omega
      subst ex
      subst ey
      obtain ⟨k, hk⟩ := List.getElem?_of_mem (run_in f _ _ _ _ h1 ms)
      exact .inr ⟨k, (List.getElem?_eq_some_iff.mp hk).1, (step k c hk).mpr ⟨.inr (.inr h1), .inr (.inr h2)⟩⟩
theorem RowM.tal {M : MachV} {ls : List PySem.Str} {R : Rk} (f : MFine M) (a : Asc M.sta) (n8 : M.sta.length ≤ 8) (h : RowM M ls R) : TalOk ⟨M.sta, R⟩ := ⟨a, f.nm, h.1, n8⟩
/-- the mark due -/
theorem mk_due (o : Option Int) : mkS (rankO o) = (match o with | none => "never" | some n => if n = 0 then "free" else "some") := by
  cases o with
  | none => rfl
  | some n =>
    unfold rankO
    by_cases e : n = 0
    · simp only [if_pos e]
      rfl
    · simp only [if_neg e]
      rfl
theorem place_of {T : TalV} (oT : TalOk T) {i : Nat} {s : PySem.Str} (h : T.sts[i]? = some s) : placeT T s = i := by
  have hi := (List.getElem?_eq_some_iff.mp h).1
  have hm := List.mem_of_getElem? h
  have h1 := idx_lt hm
  have h2 : T.sts[T.sts.idxOf s]? = some s := idx_get hm
  exact (List.getElem?_inj hi (asc_nodup oT.asc)).mp (by rw [h]; exact h2.symm) |>.symm
/-! ### a law's machine -/
def spStatesA (K : PySem.W.Frag) : Sp := fun vs H Q _ => ∃ (m a b e : Addr) (us : List V) (xs : List Arw) (ss es : List PySem.Str), vs = [.ref m] ∧ MadeL K H m a b e us xs ss es ∧ H b = some (.lst (ss.map V.str)) ∧ H e = some (.lst (es.map V.str)) ∧ ss.length + es.length + 2 * xs.length < 64 ∧
  ∀ (q : Addr) (os : List PySem.Str) (H' : Hp), H q = none → H' q = some (.lst (os.map V.str)) → (∀ k, k ∈ os ↔ (k ∈ ss ∨ k ∈ es ∨ ∃ x ∈ xs, k = x.s ∨ k = x.t)) → Asc os → Same H H' → Q (.ref q) H'
def spMadeM (K : PySem.W.Frag) (C : Addr) : Sp := fun vs H Q _ => ∃ (m a b e : Addr) (us : List V) (xs : List Arw) (ss es ns : List PySem.Str), vs = [.ref m] ∧ MadeL K H m a b e us xs ss es ∧ (∀ x ∈ xs, x.Ok) ∧ xs.length ≤ 60 ∧ (∀ s ∈ ns, Nm s) ∧ ss.length ≤ 60 ∧ es.length ≤ 60 ∧ ns.length ≤ 8 ∧ (∀ s ∈ ss, s ∈ ns) ∧ (∀ s ∈ es, s ∈ ns) ∧ (∀ x ∈ xs, x.s ∈ ns ∧ x.t ∈ ns) ∧
  ∀ (q : Addr) (M : MachV) (H' : Hp), H q = none → IsMach C H' q M → MOf M xs ss es → MFine M → Same H H' → Q (.ref q) H'
theorem sta_iff {M : MachV} {xs : List Arw} {ss es : List PySem.Str} (h : MOf M xs ss es) (k : PySem.Str) : k ∈ M.sta ↔ (k ∈ ss ∨ k ∈ es ∨ ∃ x ∈ xs, k = x.s ∨ k = x.t) := by
  rw [h.sta.2]
  constructor
  · rintro (h1 | h1 | ⟨x, hx, h1⟩)
    · exact .inl h1
    · exact .inr (.inl h1)
    · exact .inr (.inr ⟨x, (h.ars.sub x hx).1, h1⟩)
  · rintro (h1 | h1 | ⟨x, hx, h1⟩)
    · exact .inl h1
    · exact .inr (.inl h1)
    · obtain ⟨y, hy, e⟩ := h.ars.all x hx
      obtain ⟨f1, _, f3⟩ := Arw.k3_eq e
      exact .inr (.inr ⟨y, hy, by rw [f1, f3]; exact h1⟩)
theorem sta_of {M : MachV} {xs : List Arw} {ss es os : List PySem.Str} (h : MOf M xs ss es) (ha : Asc os) (hm : ∀ k, k ∈ os ↔ (k ∈ ss ∨ k ∈ es ∨ ∃ x ∈ xs, k = x.s ∨ k = x.t)) : M.sta = os := asc_uniq h.sta.1 ha fun k => (sta_iff h k).trans (hm k).symm
theorem due_te {σ : L2.St} {H : Hp} {Q : VK} {o : Option Int} {i : Nat} (h : σ[i]? = some (some (optV o))) (q : Q (.str (mkS (rankO o))) H) :
    tIf (tTest (tOp (fun x y H Q => y = .non ∧ Q (.bl (decide (x = .non))) H) (tVar i) (tC .non))) (tC (.str "never")) (tIf (tTest (tOp rEq (tVar i) (tC (.int 0)))) (tC (.str "free")) (tC (.str "some"))) σ H Q := by
  rw [mk_due] at q
  cases o with
  | none => exact ⟨_, h, rfl, _, rfl, iteT q⟩
  | some n =>
    refine ⟨_, h, rfl, _, rfl, iteF ?_⟩
    have q : Q (.str (if n = 0 then "free" else "some")) H := q
    refine ⟨_, h, rfl, _, rfl, ite2 (fun hc => ?_) (fun hc => ?_)⟩
    · rw [if_pos (V.int.inj (of_decide_eq_true hc))] at q
      exact q
    · rw [if_neg (fun z => hc (decide_eq_true (congrArg V.int z)))] at q
      exact q
/-! ### what is told of a row that is none -/
theorem Nd.dp {K : PySem.W.Frag} {H : Hp} {v : V} : ∀ {d : PyData}, Nd H v d → (∀ kvs, d ≠ .dict kvs) → (∀ ds, d = .list ds ∨ d = .tuple ds → ∃ ss : List PySem.Str, ds = ss.map PyData.str) → Dp K H v d := by
  have stq : ∀ (ss : List PySem.Str) (vs : List V), NdAll H vs (ss.map PyData.str) → vs = ss.map V.str := by
    intro ss
    induction ss with
    | nil => intro vs h; cases h; rfl
    | cons s ss ih =>
      intro vs h
      cases h with
      | cons a r =>
        cases a
        rw [ih _ r]
        rfl
  intro d h h1 h2
  cases h with
  | non => exact .non
  | bl b => exact .bl b
  | int i => exact .int i
  | str s _ => exact .str s
  | lst e _ r =>
    obtain ⟨ss, rfl⟩ := h2 _ (.inl rfl)
    obtain rfl := stq ss _ r
    exact .lst (SqL.of e) (dp_strs ss)
  | tup e _ r =>
    obtain ⟨ss, rfl⟩ := h2 _ (.inr rfl)
    obtain rfl := stq ss _ r
    exact .tup (SqT.of e) (dp_strs ss)
  | dct e => exact absurd rfl (h1 _)
  | ftp e _ r =>
    obtain ⟨ss, rfl⟩ := h2 _ (.inr rfl)
    obtain rfl := stq ss _ r
    exact .tup e.sq (dp_strs ss)
/-- ('bad', v), v no row -/
def spLToldW (CM : Addr) : Sp := fun vs H Q _ => ∃ (m : Addr) (M : MachV) (v : V) (t : String), vs = [.ref m, v] ∧ IsMach CM H m M ∧ MGood M ∧ M.sta.length ≤ 8 ∧ Kn H v t ∧ rowVB v = false ∧ ∀ q H', Same H H' → H' q = some (.tup [.str "bad", v]) → Q (.ref q) H'
end Bz

namespace Bz
open PySem PySem.Spec PyProof.Rows L2
/-! ### a row many times over -/
def reps (w : List PySem.Str) : Nat → List PySem.Str
  | 0 => []
  | n + 1 => w ++ reps w n
theorem reps_add (w : List PySem.Str) (m : Nat) : ∀ n, reps w (n + m) = reps w n ++ reps w m
  | 0 => by rw [Nat.zero_add]; rfl
  | n + 1 => by
    rw [show n + 1 + m = (n + m) + 1 by omega]
    show w ++ reps w (n + m) = w ++ reps w n ++ reps w m
    rw [reps_add w m n, List.append_assoc]
theorem reps_one (w : List PySem.Str) : reps w 1 = w := List.append_nil w
/-- n + 1 places in a finite set of n: one comes twice -/
theorem pigeon {α : Type} [DecidableEq α] {S : List α} {f : Nat → α} {n : Nat} (hn : S.length ≤ n) (hf : ∀ t, t ≤ n → f t ∈ S) : ∃ a b, a < b ∧ b ≤ n ∧ f a = f b := by
  refine Classical.byContradiction fun c => ?_
  have nd : ((List.range (n + 1)).map f).Nodup := by
    refine List.pairwise_map.mpr ?_
    refine (List.nodup_range (n := n + 1)).imp_of_mem fun {a b} ha hb hab e => ?_
    have la := List.mem_range.mp ha
    have lb := List.mem_range.mp hb
    rcases Nat.lt_or_gt_of_ne hab with h | h
    · exact c ⟨a, b, h, by omega, e⟩
    · exact c ⟨b, a, h, by omega, e.symm⟩
  have := nodup_le nd fun x hx => (show x ∈ S from by
    obtain ⟨t, ht, rfl⟩ := List.mem_map.mp hx
    have := List.mem_range.mp ht
    exact hf t (by omega))
  rw [List.length_map, List.length_range] at this
  omega
section
variable {M : MachV} (f : MFine M) {w : List PySem.Str} {R : Rk} (hR : RowM M w R) (hs : putR M.sta.length R R = R)
include f hR hs
/-- settled: the ranks of the row, how often it may come -/
theorem reps_row : ∀ n, RowM M (reps w (n + 1)) R
  | 0 => by rw [reps_one]; exact hR
  | n + 1 => by
    have h := hR.app f (reps_row n)
    rw [hs] at h
    exact h
/-- a way of n steps of at most r -/
theorem walk_of {r : Nat} (r3 : r < 3) : ∀ (n i j : Nat), i < M.sta.length → j < M.sta.length → ent R i j ≤ r → ∃ g : Nat → Nat, g 0 = i ∧ g (n + 1) = j ∧ (∀ t, t ≤ n + 1 → g t < M.sta.length) ∧ ∀ t, t < n + 1 → ent R (g t) (g (t + 1)) ≤ r
  | 0, i, j, hi, hj, h => by
    refine ⟨fun t => if t = 0 then i else j, rfl, rfl, fun t _ => by dsimp only; split <;> assumption, fun t ht => ?_⟩
    have e : t = 0 := by omega
    subst e
    exact h
  | n + 1, i, j, hi, hj, h => by
    rcases (set_le hs hi hj).mp h with h | ⟨k, hk, h1, h2⟩
    · omega
    · obtain ⟨g, g0, gn, gl, gs⟩ := walk_of r3 n k j hk hj h2
      refine ⟨fun t => if t = 0 then i else g (t - 1), rfl, ?_, fun t ht => ?_, fun t ht => ?_⟩
      · show (if n + 1 + 1 = 0 then i else g (n + 1 + 1 - 1)) = j
        rw [if_neg (by omega)]
        exact gn
      · dsimp only
        split
        · exact hi
        · exact gl _ (by omega)
      · dsimp only
        by_cases e : t = 0
        · subst e
          rw [if_pos rfl, if_neg (by omega)]
          show ent R i (g 0) ≤ r
          rw [g0]
          exact h1
        · rw [if_neg e, if_neg (by omega)]
          have := gs (t - 1) (by omega)
          rw [show t - 1 + 1 = t + 1 - 1 by omega] at this
          exact this
theorem walk_tr {r : Nat} {g : Nat → Nat} {n : Nat} (gl : ∀ t, t ≤ n → g t < M.sta.length) (gs : ∀ t, t < n → ent R (g t) (g (t + 1)) ≤ r) : ∀ (d a : Nat), a + (d + 1) ≤ n → ent R (g a) (g (a + (d + 1))) ≤ r
  | 0, a, h => gs a (by omega)
  | d + 1, a, h => by
    have h1 := walk_tr gl gs d a (by omega)
    have h2 := gs (a + (d + 1)) (by omega)
    exact set_tr hs (gl a (by omega)) (gl _ (by omega)) (gl _ (by omega)) h1 h2
/-- on the way there is a state that comes round -/
theorem round_on {r i j : Nat} (r3 : r < 3) (hi : i < M.sta.length) (hj : j < M.sta.length) (h : ent R i j ≤ r) : ∃ k, k < M.sta.length ∧ ent R i k ≤ r ∧ ent R k k ≤ r ∧ ent R k j ≤ r := by
  obtain ⟨g, g0, gn, gl, gs⟩ := walk_of f hR hs r3 (M.sta.length + 1) i j hi hj h
  generalize hN : M.sta.length + 1 + 1 = N at gn gl gs
  obtain ⟨a, b, hab, hb, e⟩ := pigeon (S := List.range M.sta.length) (f := fun t => g (t + 1)) (n := M.sta.length) (by rw [List.length_range]; omega) fun t ht => List.mem_range.mpr (gl _ (by omega))
  have w1 := walk_tr f hR hs gl gs
  refine ⟨g (a + 1), gl _ (by omega), ?_, ?_, ?_⟩
  · have := w1 a 0 (by omega)
    rw [g0, Nat.zero_add] at this
    exact this
  · have := w1 (b - a - 1) (a + 1) (by omega)
    rw [show a + 1 + (b - a - 1 + 1) = b + 1 by omega] at this
    have e' : g (a + 1) = g (b + 1) := e
    rw [← e'] at this
    exact this
  · have := w1 (N - (a + 1) - 1) (a + 1) (by omega)
    rw [show a + 1 + (N - (a + 1) - 1 + 1) = N by omega, gn] at this
    exact this
theorem rep_fr {i j : Nat} (hi : i < M.sta.length) (hj : j < M.sta.length) : ent (repR M.sta.length R) i j = 0 ↔ ent R i j = 0 := by
  constructor
  · intro h
    rcases (repE_le hi hj (r := 0) (A := R)).mp (by omega) with h | ⟨k, hk, a, _, c⟩
    · omega
    · have := set_tr hs hi hj hk a c
      omega
  · intro h
    obtain ⟨k, hk, a, b, c⟩ := round_on f hR hs (r := 0) (by omega) hi hj (by omega)
    have := (repE_le hi hj (r := 0) (A := R)).mpr (.inr ⟨k, hk, a, by unfold rndN; rw [if_pos (by omega)]; exact b, c⟩)
    omega
theorem rep_never {i j : Nat} (hi : i < M.sta.length) (hj : j < M.sta.length) : ent (repR M.sta.length R) i j = 3 ↔ ent R i j = 3 := by
  have l3 := hR.1.ent i j
  have m3 := (rep_sq M.sta.length R).ent i j
  constructor
  · intro h
    refine Classical.byContradiction fun c => ?_
    obtain ⟨k, hk, a, b, d⟩ := round_on f hR hs (r := 2) (by omega) hi hj (by omega)
    have := (repE_le hi hj (r := 2) (A := R)).mpr (.inr ⟨k, hk, a, by unfold rndN; split <;> omega, d⟩)
    omega
  · intro h
    refine Classical.byContradiction fun c => ?_
    rcases (repE_le hi hj (r := 2) (A := R)).mp (by omega) with h | ⟨k, hk, a, _, d⟩
    · omega
    · have := set_tr hs hi hj hk a d
      omega
/-- some: there is a free round on a way -/
theorem rep_some {i j : Nat} (hi : i < M.sta.length) (hj : j < M.sta.length) (h : ent (repR M.sta.length R) i j = 1) : ent R i j = 1 ∧ ∃ k, k < M.sta.length ∧ ent R i k ≤ 1 ∧ ent R k k = 0 ∧ ent R k j ≤ 1 := by
  rcases (repE_le hi hj (r := 1) (A := R)).mp (by omega) with h1 | ⟨k, hk, a, b, c⟩
  · omega
  · have q := set_tr hs hi hj hk a c
    have z : ¬ ent R i j = 0 := fun z => by have := (rep_fr f hR hs hi hj).mpr z; omega
    refine ⟨by omega, k, hk, a, ?_, c⟩
    unfold rndN at b
    split at b <;> omega
/-- many: no free round on any way that is read -/
theorem rep_many {i j : Nat} (hi : i < M.sta.length) (hj : j < M.sta.length) (h : ent (repR M.sta.length R) i j = 2) : ∀ k, k < M.sta.length → ent R i k ≤ 1 → ent R k k = 0 → ent R k j ≤ 1 → False := fun k hk a b c => by
  have := (repE_le hi hj (r := 1) (A := R)).mpr (.inr ⟨k, hk, a, by unfold rndN; rw [if_pos (by omega)]; omega, c⟩)
  omega
end
/-! ### prices of the row many times over -/
section
variable {M : MachV} (f : MFine M) {w : List PySem.Str} {R : Rk} (hR : RowM M w R) (hs : putR M.sta.length R R = R)
/-- runs on the row n times, place by place -/
theorem steps_of : ∀ (n : Nat) (x y : PySem.Str) (c : Int), RunS M.ars (reps w n) x y c → ∃ (g : Nat → PySem.Str) (e : Nat → Int), g 0 = x ∧ g n = y ∧ (∀ t, t < n → RunS M.ars w (g t) (g (t + 1)) (e t)) ∧ True
  | 0, x, y, c, h => by
    obtain ⟨rfl, _⟩ := h
    exact ⟨fun _ => x, fun _ => 0, rfl, rfl, fun t ht => absurd ht (Nat.not_lt_zero _), trivial⟩
  | n + 1, x, y, c, h => by
    obtain ⟨z, c1, c2, h1, h2, _⟩ := (run_app _ _ _ _).mp (show RunS M.ars (w ++ reps w n) x y c from h)
    obtain ⟨g, e, g0, gn, gs, _⟩ := steps_of n z y c2 h2
    refine ⟨fun t => if t = 0 then x else g (t - 1), fun t => if t = 0 then c1 else e (t - 1), rfl, ?_, fun t ht => ?_, trivial⟩
    · show (if n + 1 = 0 then x else g (n + 1 - 1)) = y
      rw [if_neg (by omega)]
      exact gn
    · dsimp only
      by_cases e0 : t = 0
      · subst e0
        rw [if_pos rfl, if_pos rfl, if_neg (by omega)]
        show RunS M.ars w x (g 0) c1
        rw [g0]
        exact h1
      · rw [if_neg e0, if_neg e0, if_neg (by omega)]
        have := gs (t - 1) (by omega)
        rw [show t - 1 + 1 = t + 1 - 1 by omega] at this
        exact this
include f
theorem free_steps (h0 : ∀ x ∈ M.ars, 0 ≤ x.c) : ∀ (n : Nat) (x y : PySem.Str), RunS M.ars (reps w n) x y 0 → ∃ g : Nat → PySem.Str, g 0 = x ∧ g n = y ∧ ∀ t, t < n → RunS M.ars w (g t) (g (t + 1)) 0
  | 0, x, y, h => by
    obtain ⟨rfl, _⟩ := h
    exact ⟨fun _ => x, rfl, rfl, fun t ht => absurd ht (Nat.not_lt_zero _)⟩
  | n + 1, x, y, h => by
    obtain ⟨z, c1, c2, h1, h2, e⟩ := (run_app _ _ _ _).mp (show RunS M.ars (w ++ reps w n) x y 0 from h)
    have p1 := run_posx h0 _ _ _ _ h1
    have p2 := run_posx h0 _ _ _ _ h2
    have e1 : c1 = 0 := by omega
    have e2 : c2 = 0 := by omega
    subst e1
    subst e2
    obtain ⟨g, g0, gn, gs⟩ := free_steps h0 n z y h2
    refine ⟨fun t => if t = 0 then x else g (t - 1), rfl, ?_, fun t ht => ?_⟩
    · show (if n + 1 = 0 then x else g (n + 1 - 1)) = y
      rw [if_neg (by omega)]
      exact gn
    · dsimp only
      by_cases e0 : t = 0
      · subst e0
        rw [if_pos rfl, if_neg (by omega)]
        show RunS M.ars w x (g 0) 0
        rw [g0]
        exact h1
      · rw [if_neg e0, if_neg (by omega)]
        have := gs (t - 1) (by omega)
        rw [show t - 1 + 1 = t + 1 - 1 by omega] at this
        exact this
omit f in
theorem steps_run {g : Nat → PySem.Str} {n : Nat} (gs : ∀ t, t < n → RunS M.ars w (g t) (g (t + 1)) 0) : ∀ (d a : Nat), a + d ≤ n → RunS M.ars (reps w d) (g a) (g (a + d)) 0
  | 0, a, h => ⟨rfl, rfl⟩
  | d + 1, a, h => by
    have h1 := gs a (by omega)
    have h2 := steps_run gs d (a + 1) (by omega)
    rw [show a + 1 + d = a + (d + 1) by omega] at h2
    exact (run_app _ _ _ _).mpr ⟨_, 0, 0, h1, h2, rfl⟩
include hR hs
theorem rank_run {n i j : Nat} {x y : PySem.Str} {c : Int} (hx : M.sta[i]? = some x) (hy : M.sta[j]? = some y) (h : RunS M.ars (reps w (n + 1)) x y c) : ent R i j ≤ 1 ∧ (c = 0 → ent R i j = 0) := by
  have h0 : ∀ x ∈ M.ars, 0 ≤ x.c := fun x hx => (f.ok x hx).c0
  obtain ⟨o, ho, e⟩ := (reps_row f hR hs n).2 i j x y hx hy
  refine ⟨?_, fun hc => ?_⟩
  · rw [e]
    exact (rank_le h0 ho 1).mpr (.inr (.inl ⟨Nat.le_refl _, c, h⟩))
  · subst hc
    have := (rank_le h0 ho 0).mpr (.inr (.inr h))
    omega
/-- without a free round as many rounds cost something -/
theorem dear_round (nd : M.sta.Nodup) {i j a b : Nat} {s u x z : PySem.Str} {c : Int} (hs' : M.sta[i]? = some s) (hu : M.sta[j]? = some u) (no : ∀ k, k < M.sta.length → ent R i k ≤ 1 → ent R k k = 0 → ent R k j ≤ 1 → False)
    {c1 c2 : Int} (h1 : RunS M.ars (reps w a) s x c1) (h : RunS M.ars (reps w M.sta.length) x z c) (h2 : RunS M.ars (reps w b) z u c2) : 1 ≤ c := by
  have h0 : ∀ x ∈ M.ars, 0 ≤ x.c := fun x hx => (f.ok x hx).c0
  have hc := run_posx h0 _ _ _ _ h
  refine Classical.byContradiction fun nc => ?_
  have ec : c = 0 := by omega
  subst ec
  obtain ⟨g, g0, gn, gs⟩ := free_steps f h0 _ x z h
  have ms : s ∈ M.sta := List.mem_of_getElem? hs'
  have mx := run_in f _ _ _ _ h1 ms
  have mg : ∀ t, t ≤ M.sta.length → g t ∈ M.sta := fun t ht => by
    have := steps_run gs t 0 (by omega)
    rw [g0, Nat.zero_add] at this
    exact run_in f _ _ _ _ this mx
  obtain ⟨p, q, hpq, hq, e⟩ := pigeon (Nat.le_refl _) mg
  obtain ⟨k, hk⟩ := List.getElem?_of_mem (mg p (by omega))
  have kl := (List.getElem?_eq_some_iff.mp hk).1
  have r1 := steps_run gs p 0 (by omega)
  rw [g0, Nat.zero_add] at r1
  have r2 := steps_run gs (q - p) p (by omega)
  rw [show p + (q - p) = q by omega, ← e] at r2
  have r3 := steps_run gs (M.sta.length - q) q (by omega)
  rw [show q + (M.sta.length - q) = M.sta.length by omega, gn, ← e] at r3
  have l1 : RunS M.ars (reps w (a + p)) s (g p) (c1 + 0) := by rw [reps_add]; exact (run_app _ _ _ _).mpr ⟨_, _, _, h1, r1, rfl⟩
  have l3 : RunS M.ars (reps w (M.sta.length - q + b)) (g p) u (0 + c2) := by rw [reps_add]; exact (run_app _ _ _ _).mpr ⟨_, _, _, r3, h2, rfl⟩
  have k0 : ent R k k = 0 := by
    obtain ⟨m, hm⟩ : ∃ m, q - p = m + 1 := ⟨q - p - 1, by omega⟩
    rw [hm] at r2
    exact (rank_run f hR hs hk hk r2).2 rfl
  refine no k kl ?_ k0 ?_
  · cases ea : a + p with
    | zero =>
      rw [ea] at l1
      obtain ⟨e1, _⟩ := l1
      rw [← e1] at hk
      have ei : i = k := (List.getElem?_inj (List.getElem?_eq_some_iff.mp hs').1 nd).mp (by rw [hs', hk])
      rw [ei, k0]
      omega
    | succ m =>
      rw [ea] at l1
      exact (rank_run f hR hs hs' hk l1).1
  · cases ea : M.sta.length - q + b with
    | zero =>
      rw [ea] at l3
      obtain ⟨e1, _⟩ := l3
      rw [e1] at hk
      have ei : j = k := (List.getElem?_inj (List.getElem?_eq_some_iff.mp hu).1 nd).mp (by rw [hu, hk])
      rw [ei, k0]
      omega
    | succ m =>
      rw [ea] at l3
      exact (rank_run f hR hs hk hu l3).1
theorem dear_many (nd : M.sta.Nodup) (st1 : 1 ≤ M.sta.length) {i j : Nat} {s u : PySem.Str} (hs' : M.sta[i]? = some s) (hu : M.sta[j]? = some u) (no : ∀ k, k < M.sta.length → ent R i k ≤ 1 → ent R k k = 0 → ent R k j ≤ 1 → False) :
    ∀ (k m a b : Nat) (x y : PySem.Str) (c c1 c2 : Int), k * M.sta.length ≤ m → RunS M.ars (reps w a) s x c1 → RunS M.ars (reps w m) x y c → RunS M.ars (reps w b) y u c2 → (k : Int) ≤ c
  | 0, m, a, b, x, y, c, c1, c2, _, _, h, _ => by
    have := run_posx (fun x hx => (f.ok x hx).c0) _ _ _ _ h
    omega
  | k + 1, m, a, b, x, y, c, c1, c2, hm, h1, h, h2 => by
    rw [Nat.add_mul, Nat.one_mul] at hm
    have em : m = M.sta.length + (m - M.sta.length) := by omega
    rw [em, reps_add] at h
    obtain ⟨z, d1, d2, g1, g2, ec⟩ := (run_app _ _ _ _).mp h
    have l1 : RunS M.ars (reps w (a + M.sta.length)) s z (c1 + d1) := by rw [reps_add]; exact (run_app _ _ _ _).mpr ⟨_, _, _, h1, g1, rfl⟩
    have l2 : RunS M.ars (reps w (m - M.sta.length + b)) z u (d2 + c2) := by rw [reps_add]; exact (run_app _ _ _ _).mpr ⟨_, _, _, g2, h2, rfl⟩
    have q1 := dear_round f hR hs nd hs' hu no h1 g1 l2
    have q2 := dear_many nd st1 hs' hu no k (m - M.sta.length) (a + M.sta.length) b z y d2 _ c2 (by omega) l1 g2 h2
    omega
end
end Bz

namespace Bz
open PySem PySem.Spec PyProof.Rows L2
/-! ### the law over rows many times over -/
theorem reps_flat (w : List PySem.Str) : ∀ n, reps w n = (List.replicate n w).flatten
  | 0 => rfl
  | n + 1 => by
    show w ++ reps w n = _
    rw [reps_flat w n, List.replicate_succ, List.flatten_cons]
theorem sgnL_rep (z : PySem.Str) (n : Nat) : sgnL (repS z (n : Int)) = reps (sgnL z) n := by
  rw [sgnL_tl, repS_tl, List.map_flatten, List.map_replicate, reps_flat, sgnL_tl]
  rfl
/-- prices of one to six rounds, as the mark says -/
def FitC (mk : Nat) (ps : List (Option Int)) (way : Option Int) (n : Nat) : Prop :=
  ps.length = 6 ∧ mk ≤ 3 ∧ (mk = 3 → ∀ p ∈ ps, p = none) ∧ (mk ≠ 3 → ∃ ns : List Int, ps = ns.map some ∧ (mk = 0 → ∀ x ∈ ns, x = 0) ∧
    (mk = 1 → (∀ x ∈ ns, 0 < x) ∧ ∃ v, way = some v ∧ ∀ x ∈ ns.drop 1, x ≤ v) ∧ (mk = 2 → ∀ (k : Nat) (x : Int), ns[k]? = some x → (((k + 1) / n : Nat) : Int) ≤ x))
def spFits (K : PySem.W.Frag) : Sp := fun vs H Q _ => ∃ (mk : Nat) (a : Addr) (ps : List (Option Int)) (way : Option Int) (n : Nat), vs = [.str (mkS mk), .ref a, optV way, .int (n : Nat)] ∧ SqL K H a (ps.map optV) ∧ FitC mk ps way n ∧ 1 ≤ n ∧ n ≤ 8 ∧
  ∀ H', Same H H' → Q (.bl true) H'
def WayP (T : TalV) (xs : List Arw) (row s u : PySem.Str) (cs : List PySem.Str) (n : Int) : Prop := ∃ c ∈ cs, ent T.rk (placeT T c) (placeT T c) = 0 ∧ ∃ p q, LPr xs [s] [c] (sgnL row) (some p) ∧ LPr xs [c] [u] (sgnL row) (some q) ∧ n = p + q
def spWay (K : PySem.W.Frag) (C : Addr) : Sp := fun vs H Q _ => ∃ (m a b e t : Addr) (us : List V) (xs : List Arw) (ss es : List PySem.Str) (row s u : PySem.Str) (T : TalV), vs = [.ref m, .str row, .str s, .str u, .ref t] ∧ MadeL K H m a b e us xs ss es ∧ H b = some (.lst (ss.map V.str)) ∧ H e = some (.lst (es.map V.str)) ∧ ss.length + es.length + 2 * xs.length < 64 ∧
  row.length ≤ 5000 ∧ IsTal C H t T ∧ TalOk T ∧ (∀ k, k ∈ T.sts ↔ (k ∈ ss ∨ k ∈ es ∨ ∃ x ∈ xs, k = x.s ∨ k = x.t)) ∧
  ∀ (o : Option Int) (H' : Hp), LeastO (WayP T xs row s u T.sts) o → Same H H' → Q (optV o) H'
theorem way_snoc {T : TalV} {xs : List Arw} {row s u c : PySem.Str} {cs : List PySem.Str} {n : Int} : WayP T xs row s u (cs ++ [c]) n ↔ WayP T xs row s u cs n ∨ (ent T.rk (placeT T c) (placeT T c) = 0 ∧ ∃ p q, LPr xs [s] [c] (sgnL row) (some p) ∧ LPr xs [c] [u] (sgnL row) (some q) ∧ n = p + q) := by
  unfold WayP
  constructor
  · rintro ⟨d, hd, h⟩
    rcases List.mem_append.mp hd with hd | hd
    · exact .inl ⟨d, hd, h⟩
    · rw [List.mem_singleton.mp hd] at h
      exact .inr h
  · rintro (⟨d, hd, h⟩ | h)
    · exact ⟨d, List.mem_append_left _ hd, h⟩
    · exact ⟨c, List.mem_append_right _ (List.mem_singleton.mpr rfl), h⟩
theorem cut6 {ns : List Int} (h : ns.length = 6) : cutV (ns.map V.int) (some 1) none = (ns.drop 1).map V.int := by
  match ns, h with
  | [_, _, _, _, _, _], _ => rfl
theorem non_in : ∀ ns : List Int, inV .non (ns.map V.int) = false
  | [] => rfl
  | _ :: ns => non_in ns
theorem flat_ints (ns : List Int) : (ns.map V.int).all flatV = true := by
  rw [List.all_eq_true]
  intro v hv
  obtain ⟨n, _, rfl⟩ := List.mem_map.mp hv
  rfl
/-! ### the law's claim about a pair of states -/
section
variable {M : MachV} (f : MFine M) {w : List PySem.Str} {R : Rk} (hR : RowM M w R) (hs : putR M.sta.length R R = R)
include f hR hs
theorem fits_pair (nd : M.sta.Nodup) (st1 : 1 ≤ M.sta.length) {i j : Nat} {s u : PySem.Str} (hx : M.sta[i]? = some s) (hy : M.sta[j]? = some u) {ps : List (Option Int)} (pl : ps.length = 6) (hp : ∀ k o, ps[k]? = some o → LPr M.ars [s] [u] (reps w (k + 1)) o)
    {way : Option Int} (hw : LeastO (fun n => ∃ k c, M.sta[k]? = some c ∧ ent R k k = 0 ∧ ∃ p q, LPr M.ars [s] [c] w (some p) ∧ LPr M.ars [c] [u] w (some q) ∧ n = p + q) way) :
    FitC (ent (repR M.sta.length R) i j) ps way M.sta.length := by
  have h0 : ∀ x ∈ M.ars, 0 ≤ x.c := fun x hx => (f.ok x hx).c0
  have hi := (List.getElem?_eq_some_iff.mp hx).1
  have hj := (List.getElem?_eq_some_iff.mp hy).1
  have sg : ∀ {a b : PySem.Str} {ls : List PySem.Str} {n : Int}, LPr M.ars [a] [b] ls (some n) → RunS M.ars ls a b n := fun h => by
    obtain ⟨⟨_, ha, _, hb, h⟩, _⟩ := h
    rw [List.mem_singleton.mp ha, List.mem_singleton.mp hb] at h
    exact h
  have le : ∀ {a b : PySem.Str} {ls : List PySem.Str} {n m : Int}, LPr M.ars [a] [b] ls (some n) → RunS M.ars ls a b m → n ≤ m := fun h r => h.2 _ ⟨_, List.mem_singleton.mpr rfl, _, List.mem_singleton.mpr rfl, r⟩
  have rk : ∀ {k : Nat} {o : Option Int}, ps[k]? = some o → ent R i j = rankO o := fun {k o} ho => by
    obtain ⟨o', ho', e⟩ := (reps_row f hR hs k).2 i j s u hx hy
    rw [e, LPr.uniq ho' (hp k o ho)]
  refine ⟨pl, (rep_sq M.sta.length R).ent i j, fun e3 p hpm => ?_, fun n3 => ?_⟩
  · obtain ⟨k, hk⟩ := List.getElem?_of_mem hpm
    have e := rk hk
    rw [(rep_never f hR hs hi hj).mp e3] at e
    cases p with
    | none => rfl
    | some n =>
      unfold rankO at e
      simp only at e
      split at e <;> omega
  · have ne3 : ent R i j ≠ 3 := fun z => n3 ((rep_never f hR hs hi hj).mpr z)
    have all : ∃ ns : List Int, ps = ns.map some := by
      have : ∀ (l : List (Option Int)), (∀ p ∈ l, p ≠ none) → ∃ ns : List Int, l = ns.map some := by
        intro l
        induction l with
        | nil => exact fun _ => ⟨[], rfl⟩
        | cons p l ih =>
          intro h
          obtain ⟨ns, rfl⟩ := ih fun q hq => h q (List.mem_cons_of_mem _ hq)
          cases p with
          | none => exact absurd rfl (h none (List.mem_cons_self ..))
          | some n => exact ⟨n :: ns, rfl⟩
      refine this ps fun p hpm e => ?_
      obtain ⟨k, hk⟩ := List.getElem?_of_mem hpm
      rw [e] at hk
      exact ne3 (rk hk)
    obtain ⟨ns, rfl⟩ := all
    have at' : ∀ {k : Nat} {x : Int}, ns[k]? = some x → LPr M.ars [s] [u] (reps w (k + 1)) (some x) ∧ ent R i j = rankO (some x) := fun {k x} h => by
      have h' : (ns.map some)[k]? = some (some x) := by rw [List.getElem?_map, h]; rfl
      exact ⟨hp k _ h', rk h'⟩
    refine ⟨ns, rfl, fun e0 x hxm => ?_, fun e1 => ?_, fun e2 k x hk => ?_⟩
    · obtain ⟨k, hk⟩ := List.getElem?_of_mem hxm
      have e := (at' hk).2
      rw [(rep_fr f hR hs hi hj).mp e0] at e
      unfold rankO at e
      simp only at e
      split at e
      · assumption
      · omega
    · obtain ⟨r1, k, hk, ak, kk, kj⟩ := rep_some f hR hs hi hj e1
      have gk := List.getElem?_eq_getElem hk
      refine ⟨fun x hxm => ?_, ?_⟩
      · obtain ⟨l, hl⟩ := List.getElem?_of_mem hxm
        obtain ⟨h1, e⟩ := at' hl
        have := run_posx h0 _ _ _ _ (sg h1)
        rw [r1] at e
        unfold rankO at e
        simp only at e
        split at e <;> omega
      · obtain ⟨o1, ho1, q1⟩ := hR.2 i k s _ hx gk
        obtain ⟨o2, ho2, q2⟩ := hR.2 k j _ u gk hy
        cases o1 with
        | none => rw [q1] at ak; exact absurd ak (by decide)
        | some p =>
        cases o2 with
        | none => rw [q2] at kj; exact absurd kj (by decide)
        | some q =>
        cases way with
        | none => exact absurd ⟨k, _, gk, kk, p, q, ho1, ho2, rfl⟩ (hw (p + q))
        | some v =>
        refine ⟨v, rfl, fun x hxm => ?_⟩
        obtain ⟨⟨k, c, gk, kk, p, q, ho1, ho2, rfl⟩, _⟩ := hw
        obtain ⟨l, hl⟩ := List.getElem?_of_mem hxm
        rw [List.getElem?_drop] at hl
        obtain ⟨h1, _⟩ := at' hl
        have hk := (List.getElem?_eq_some_iff.mp gk).1
        refine le h1 ?_
        rw [show 1 + l + 1 = 1 + (l + 1) by omega, reps_add, reps_one]
        refine (run_app _ _ _ _).mpr ⟨c, p, q, sg ho1, ?_, rfl⟩
        rw [reps_add, reps_one]
        refine (run_app _ _ _ _).mpr ⟨c, 0, q, ?_, sg ho2, by omega⟩
        cases l with
        | zero => exact ⟨rfl, rfl⟩
        | succ l =>
          obtain ⟨o, ho, e⟩ := (reps_row f hR hs l).2 k k c c gk gk
          rw [kk] at e
          cases o with
          | none => cases e
          | some z =>
            unfold rankO at e
            simp only at e
            split at e
            · rename_i z0
              rw [z0] at ho
              exact sg ho
            · omega
    · obtain ⟨h1, _⟩ := at' hk
      refine dear_many f hR hs nd st1 hx hy (rep_many f hR hs hi hj e2) ((k + 1) / M.sta.length) (k + 1) 0 0 s u x 0 0 (Nat.div_mul_le_self ..) ⟨rfl, rfl⟩ (sg h1) ⟨rfl, rfl⟩
end
end Bz

namespace Bz
open PySem PySem.Spec PyProof.Rows L2
/-! ### x == y, x of an own class, y anything whose type is known -/
def rOwnA (K : PySem.W.Frag) (C : Addr) (sp : Sp) (neg : Bool) : R2 := fun x y H Q => ∃ a dx fs t, x = .ref a ∧ H a = some (.ins C dx fs) ∧ TyX K H y t ∧ PySem.W.notFirst K C t = true ∧ sp [.ref a, y] H (fun v H' => ∃ r : Bool, v = .bl r ∧ Q (.bl (r != neg)) H') E0
section
variable {X : Cx} {C : Addr} {k j : Nat} {sp : Sp}
theorem run_eqA {A : Around} {pins : List (Addr × Obj)} {s : Shared} {σ : L2.St} {H : Hp} {a : Addr} {y : V} {u : Value} {f : Addr} {fd : FuncData} {Q : Bool → Hp → Prop} (sb : Sub X k A) (I : Inv X pins σ H s) (ry : RelV y u)
    (F : FnOk X.prog X.w X.K X.mg X.base CX0 k f fd ["self", "other"] sp) (hb : Binds X.K fd ["self", "other"] []) (hsp : sp [.ref a, y] H (fun v H' => ∃ r : Bool, v = .bl r ∧ Q r H') E0) :
    wpAny (model X.prog X.w) A (call (.ref f) [.ref a, u]) (fun v s' => ∃ r : Bool, v = .bool r ∧ ∃ H', Inv X pins σ H' s' ∧ Q r H') X.xe s := by
  have e0 : Env0 X.prog X.w X.K X.mg X.base A X.stack s H := by
    have e := I.env0
    exact ⟨by rw [sb.fr]; exact e.frames, e.mod, e.bs, e.bsz, e.funs, e.frf, e.hok, e.bare⟩
  have r2 : Vals [V.ref a, y] [Value.ref a, u] := .cons rfl (.cons ry .nil)
  refine wpAny_call (codeAny_mono (F.run A X.stack s H ⟨[.ref a, u], []⟩ [.ref a, u] [.ref a, y] _ E0 sb.room e0 (by
    have := hb s [.ref a, u] I.kIn (by simp)
    simpa using this) r2 hsp) fun r s' hq => ?_)
  cases r with
  | error e => exact hq.elim
  | ok fl =>
    cases fl with
    | ret w =>
      obtain ⟨z, H', I', rz, r, ez, q⟩ := I.after hq
      subst ez
      cases rz
      exact ⟨r, rfl, H', I', q⟩
    | next => exact False.elim hq
    | brk => exact False.elim hq
    | cont => exact False.elim hq
theorem eqA (M : EqK X.prog X.w X.K X.mg X.base C k sp) (hr : Room j X.A) (hj : k ≤ j := by decide) : OpR X (compareOp .Eq) (rOwnA X.K C sp false) := by
  intro pins s σ H x y v u Q I rx ry hq
  obtain ⟨a, dx, fs, t, rfl, ha, ty, nf, hsp⟩ := hq
  obtain ⟨f, fd, h1, h2, F, hb⟩ := M.ex
  cases rx
  obtain ⟨mA, J, _⟩ := ins_get I.hok ha
  obtain ⟨od, J, _⟩ := J.look
  obtain ⟨m, hF⟩ := I.fr
  obtain ⟨Pk, kt, hP, _⟩ := kit_of I ry ty
  have sb : Sub X k X.A := ⟨hr.mono hj, rfl⟩
  show wpAny (model X.prog X.w) X.A (richCompare .Eq (.ref a) u) (EP X pins σ Q) X.xe s
  refine PySem.W.cmp_K (op := .Eq) (tb := t) sb.room.units0 hF I.ok.mod.kin J (kt.ty _ _ I.kIn hP) nf h1 h2 (wpAny_mono (run_eqA sb I ry F hb (Q := fun r H' => Q (.bl (r != false)) H') hsp) (fun w s' z => ?_) fun _ _ x => x)
  obtain ⟨r, rfl, H', I', q⟩ := z
  refine ⟨.bl r, H', I', rfl, ?_⟩
  have e : (r != false) = r := by cases r <;> rfl
  rw [e] at q
  exact q
theorem neA (M : EqK X.prog X.w X.K X.mg X.base C k sp) (N : NeAt X.K C) (hr : Room j X.A) (hj : k + 1 ≤ j := by decide) : OpR X (compareOp .NotEq) (rOwnA X.K C sp true) := by
  intro pins s σ H x y v u Q I rx ry hq
  obtain ⟨a, dx, fs, t, rfl, ha, ty, nf, hsp⟩ := hq
  obtain ⟨f, fd, h1, h2, F, hb⟩ := M.ex
  cases rx
  obtain ⟨mA, J, _⟩ := ins_get I.hok ha
  obtain ⟨od, J, _⟩ := J.look
  obtain ⟨Pk, kt, hP, _⟩ := kit_of I ry ty
  have sb1 : Sub X (k + 1) X.A := ⟨hr.mono hj, rfl⟩
  have sb : Sub X k X.A.in1 := sb1.in1
  show wpAny (model X.prog X.w) X.A (richCompare .NotEq (.ref a) u) (EP X pins σ Q) X.xe s
  refine richNe_K (tb := t) I.kIn J (kt.ty _ _ I.kIn hP) nf N h1 h2 sb.room.units0 (wpAny_mono (run_eqA sb I ry F hb (Q := fun r H' => Q (.bl (r != true)) H') hsp) (fun w s' z => ?_) fun _ _ x => x)
  obtain ⟨r, rfl, H', I', q⟩ := z
  refine ⟨r, rfl, .bl (!r), H', I', rfl, ?_⟩
  have e : (r != true) = !r := by cases r <;> rfl
  rw [e] at q
  exact q
end
theorem keqA (K : PySem.W.Frag) {X : Cx} {C : Addr} {k j : Nat} {sp : Sp} (M : EqK X.prog X.w X.K X.mg X.base C k sp) (hr : Room j X.A) (hj : k ≤ j := by decide) (h : X.K = K := by rfl) : OpR X (compareOp .Eq) (rOwnA K C sp false) := by subst h; exact eqA M hr hj
theorem kneA (K : PySem.W.Frag) {X : Cx} {C : Addr} {k j : Nat} {sp : Sp} (M : EqK X.prog X.w X.K X.mg X.base C k sp) (N : NeAt X.K C) (hr : Room j X.A) (hj : k + 1 ≤ j := by decide) (h : X.K = K := by rfl) : OpR X (compareOp .NotEq) (rOwnA K C sp true) := by subst h; exact neA M N hr hj
theorem nf_own (K : PySem.W.Frag) (C : Addr) : PySem.W.notFirst K C (.ref C) = true := by simp [PySem.W.notFirst]
theorem nf_tup (K : PySem.W.Frag) (C : Addr) : PySem.W.notFirst K C (.type "tuple") = true := by rfl
theorem nf_str (K : PySem.W.Frag) (C : Addr) : PySem.W.notFirst K C (.type "str") = true := by rfl
theorem nf_non (K : PySem.W.Frag) (C : Addr) : PySem.W.notFirst K C (.type "NoneType") = true := by rfl
/-- other types are none of the class -/
structure KitN (K : PySem.W.Frag) (C : Addr) : Prop where
  a : PySem.W.isClsIn K C = true
  b : PySem.W.typeIn K (.ref C) = some (.type "type")
  c : PySem.W.subIn K (.type "str") (.ref C) = some false
  d : PySem.W.subIn K (.type "tuple") (.ref C) = some false
  e : PySem.W.subIn K (.type "NoneType") (.ref C) = some false
theorem KitN.of {K : PySem.W.Frag} {C : Addr} (k : KitN K C) {n : String} (h : PySem.W.subIn K (.type n) (.ref C) = some false) : PySem.W.kitOne K (.type n) (.ref C) = some false := by
  unfold PySem.W.kitOne
  rw [if_neg (by simp)]
  unfold PySem.W.kitCls
  have a := k.a
  unfold PySem.W.isClsIn at a
  simp only [a, k.b, Bool.true_and, beq_self_eq_true, if_true, h]
theorem KitN.s {K : PySem.W.Frag} {C : Addr} (k : KitN K C) : PySem.W.kitOne K (.type "str") (.ref C) = some false := k.of k.c
theorem KitN.t {K : PySem.W.Frag} {C : Addr} (k : KitN K C) : PySem.W.kitOne K (.type "tuple") (.ref C) = some false := k.of k.d
theorem KitN.n {K : PySem.W.Frag} {C : Addr} (k : KitN K C) : PySem.W.kitOne K (.type "NoneType") (.ref C) = some false := k.of k.e
/-! ### a list or a tuple taken apart -/
def gEit (K : PySem.W.Frag) (n : Nat) (t : TGs) : TG := fun v σ H Q => gTup K n t v σ H Q ∨ gLst K n t v σ H Q
theorem pg_eit {X : Cx} {pos : Pos} {es : List Expr} {k : Nat} {t : TGs} {n : Nat} (hc : X.calm = true) (ha : PGs X es t) (hn : (assignEach es X.env).length = n := by rfl) (hf : List.findIdx? (fun x => x.1) (assignEach es X.env) = none := by rfl) : PG X (Expr.Tuple es k pos) (gEit X.K n t) :=
  ⟨fun pins s σ H v u Q I r h => h.elim (fun h => (pg_tup hc ha hn hf).run pins s σ H v u Q I r h) fun h => (pg_lst hc ha hn hf).run pins s σ H v u Q I r h⟩
theorem kpg_eit (K : PySem.W.Frag) {X : Cx} {pos : Pos} {es : List Expr} {k : Nat} {t : TGs} {n : Nat} (hc : X.calm = true) (ha : PGs X es t) (hn : (assignEach es X.env).length = n := by rfl) (hf : List.findIdx? (fun x => x.1) (assignEach es X.env) = none := by rfl) (h : X.K = K := by rfl) : PG X (Expr.Tuple es k pos) (gEit K n t) := by subst h; exact pg_eit hc ha hn hf
/-! ### arrows told as tuples or as lists -/
def ArO (H : Hp) (q : Addr) (x : Arw) : Prop := H q = some (.tup x.vals) ∨ H q = some (.lst x.vals)
theorem ArO.same {H H' : Hp} {q : Addr} {x : Arw} (h : ArO H q x) (s : Same H H') : ArO H' q x := h.imp (s _ _) (s _ _)
def ArE (H : Hp) (vs : List V) (xs : List Arw) : Prop := Paired (fun v x => ∃ q, v = V.ref q ∧ ArO H q x) vs xs
theorem ArE.same {H H' : Hp} {vs : List V} {xs : List Arw} (h : ArE H vs xs) (s : Same H H') : ArE H' vs xs := Paired.mapP h fun v x ⟨q, e, hq⟩ => ⟨q, e, hq.same s⟩
theorem ArS.e {H : Hp} {vs : List V} {xs : List Arw} (h : ArS H vs xs) : ArE H vs xs := Paired.mapP h fun v x ⟨q, e, hq⟩ => ⟨q, e, .inl hq⟩
theorem ArE.get {H : Hp} {vs : List V} {xs : List Arw} {i : Nat} {v : V} (h : ArE H vs xs) (hv : vs[i]? = some v) : ∃ q x, v = .ref q ∧ xs[i]? = some x ∧ ArO H q x := by
  obtain ⟨x, hx, q, e, hq⟩ := pget h hv
  exact ⟨q, x, e, hx, hq⟩
theorem ArO.eit {K : PySem.W.Frag} {H : Hp} {q : Addr} {x : Arw} {t : TGs} {σ : L2.St} {Q : L2.St → Hp → Prop} (h : ArO H q x) (k : t x.vals σ H Q) : gEit K 4 t (.ref q) σ H Q :=
  h.elim (fun h => .inl ⟨q, _, rfl, SqT.of h, rfl, k⟩) fun h => .inr ⟨q, _, rfl, SqL.of h, rfl, k⟩
def spIsArrowE (K : PySem.W.Frag) : Sp := fun vs H Q _ => ∃ (q : Addr) (x : Arw), vs = [.ref q] ∧ ArO H q x ∧ x.s.length ≤ 100000 ∧ x.l.length ≤ 100000 ∧ x.t.length ≤ 100000 ∧ ∀ H', Same H H' → Q (.bl (arB x)) H'
def spCheckArrowsE (K : PySem.W.Frag) : Sp := fun vs H Q _ => ∃ (a : Addr) (us : List V) (xs : List Arw), vs = [.ref a] ∧ SqE K H a us ∧ ArE H us xs ∧ (∀ x ∈ xs, x.Ok) ∧ xs.length ≤ 400 ∧ ∀ H', Same H H' → Q .non H'
def spCheapestE (K : PySem.W.Frag) : Sp := fun vs H Q _ => ∃ (a : Addr) (us : List V) (xs : List Arw), vs = [.ref a] ∧ SqE K H a us ∧ ArE H us xs ∧ xs.length ≤ 1000 ∧
  ∀ (q : Addr) (ws : List V) (ys : List Arw) (H' : Hp), H q = none → H' q = some (.tup ws) → ArS H' ws ys → CheapOf xs ys → Same H H' → Q (.ref q) H'
def spInitE (K : PySem.W.Frag) (C : Addr) : Sp := fun vs H Q _ => ∃ (m a b e dx : Addr) (us : List V) (xs : List Arw) (ss es ns : List PySem.Str), vs = [.ref m, .ref a, .ref b, .ref e] ∧ H m = some (.ins C dx []) ∧ SqE K H a us ∧ ArE H us xs ∧ (∀ x ∈ xs, x.Ok) ∧ xs.length ≤ 400 ∧
  SqE K H b (ss.map V.str) ∧ SqE K H e (es.map V.str) ∧ (∀ s ∈ ss, Nm s) ∧ (∀ s ∈ es, Nm s) ∧ ss.length ≤ 1000 ∧ es.length ≤ 1000 ∧ ns.length ≤ 40 ∧ (∀ s ∈ ss, s ∈ ns) ∧ (∀ s ∈ es, s ∈ ns) ∧ (∀ x ∈ xs, x.s ∈ ns ∧ x.t ∈ ns) ∧
  ∀ (M : MachV) (H' : Hp), IsMach C H' m M → MOf M xs ss es → (∀ q o, q ≠ m → H q = some o → H' q = some o) → Q .non H'
/-! ### machines compared -/
def dAr (x : Arw) : PyData := .tuple [.str x.s, .str x.l, .str x.t, .int x.c]
theorem eqv_dAr (x y : Arw) : PyData.eqv (dAr x) (dAr y) = decide (x = y) := by
  obtain ⟨a, b, c, d⟩ := x
  obtain ⟨a', b', c', d'⟩ := y
  unfold dAr
  simp only [PyData.eqv, PyData.eqvAll]
  rw [Bool.eq_iff_iff]
  simp
theorem eqv_ars (xs ys : List Arw) : PyData.eqv (.tuple (xs.map dAr)) (.tuple (ys.map dAr)) = decide (xs = ys) := by
  simp only [PyData.eqv]
  exact eqvAll_map eqv_dAr xs ys
def spEqA (K : PySem.W.Frag) (C : Addr) : Sp := fun vs H Q _ => ∃ (a : Addr) (M : MachV) (y : V), vs = [.ref a, y] ∧ IsMach C H a M ∧ MFine M ∧
  ((∃ (b : Addr) (N : MachV), y = .ref b ∧ IsMach C H b N ∧ MFine N ∧ ∀ H', Same H H' → Q (.bl (decide (M.ars = N.ars) && (decide (M.sts = N.sts) && decide (M.ens = N.ens)))) H') ∨
   ∃ t : String, TyX K H y (.type t) ∧ PySem.W.kitOne K (.type t) (.ref C) = some false ∧ ∀ H', Same H H' → Q (.bl false) H')
def spText (C : Addr) : Sp := fun vs H Q _ => ∃ (m : Addr) (M : MachV), vs = [.ref m] ∧ IsMach C H m M ∧ MFine M ∧ ∀ (z : PySem.Str) H', Same H H' → Q (.str z) H'
/-! ### what is told of a machine -/
def tellM (M : MachV) : PyData := .list [.tuple (M.ars.map dAr), .tuple (M.sts.map .str), .tuple (M.ens.map .str), .tuple (M.sta.map .str), .tuple (M.lets.map .str)]
def spLTell (K : PySem.W.Frag) (C : Addr) : Sp := fun vs H Q _ => ∃ (m : Addr) (M : MachV), vs = [.ref m] ∧ IsMach C H m M ∧
  ∀ (q : Addr) (us : List V) (H' : Hp), H' q = some (.lst us) → us.length = 5 → Dp K H' (.ref q) (tellM M) → (∀ u ∈ us, TyX K H' u (.type "tuple")) → H q = none → Same H H' → Q (.ref q) H'
def spLettersA (K : PySem.W.Frag) : Sp := fun vs H Q _ => ∃ (m a b e : Addr) (us : List V) (xs : List Arw) (ss es : List PySem.Str), vs = [.ref m] ∧ MadeL K H m a b e us xs ss es ∧ xs.length ≤ 60 ∧
  ∀ (q : Addr) (os : List PySem.Str) (H' : Hp), H q = none → H' q = some (.lst (os.map V.str)) → (∀ k, k ∈ os ↔ ∃ x ∈ xs, k = x.l) → Asc os → Same H H' → Q (.ref q) H'
def spCheapLX (K : PySem.W.Frag) : Sp := fun vs H Q _ => ∃ (a : Addr) (us : List V) (xs : List Arw), vs = [.ref a] ∧ SqL K H a us ∧ ArS H us xs ∧ (∀ x ∈ xs, x.Ok) ∧ xs.length ≤ 100 ∧
  ∀ (q : Addr) (ws : List V) (ys : List Arw) (H' : Hp), H q = none → H' q = some (.lst ws) → ArS H' ws ys → CheapOf xs ys → Same H H' → Q (.ref q) H'
/-- what is due is what a machine of these arrows, starts and ends would tell -/
def DueOf (M : MachV) (xs : List Arw) (ss es : List PySem.Str) : Prop := MOf M xs ss es
structure DueIn (H : Hp) (q t1 t2 t3 t4 t5 : Addr) (ws : List V) (M : MachV) : Prop where
  q : H q = some (.lst [.ref t1, .ref t2, .ref t3, .ref t4, .ref t5])
  t1 : H t1 = some (.tup ws)
  as : ArS H ws M.ars
  t2 : H t2 = some (.tup (M.sts.map V.str))
  t3 : H t3 = some (.tup (M.ens.map V.str))
  t4 : H t4 = some (.tup (M.sta.map V.str))
  t5 : H t5 = some (.tup (M.lets.map V.str))
def DueAt (H : Hp) (q : Addr) (M : MachV) : Prop := ∃ t1 t2 t3 t4 t5 ws, DueIn H q t1 t2 t3 t4 t5 ws M
theorem DueAt.dp {K : PySem.W.Frag} {H : Hp} {q : Addr} {M : MachV} (h : DueAt H q M) : Dp K H (.ref q) (tellM M) := by
  obtain ⟨t1, t2, t3, t4, t5, ws, h⟩ := h
  exact .lst (SqL.of h.q) (.cons (.tup (SqT.of h.t1) (dp_tups h.as)) (.cons (.tup (SqT.of h.t2) (dp_strs _)) (.cons (.tup (SqT.of h.t3) (dp_strs _)) (.cons (.tup (SqT.of h.t4) (dp_strs _)) (.cons (.tup (SqT.of h.t5) (dp_strs _)) .nil)))))
theorem DueAt.same {H H' : Hp} {q : Addr} {M : MachV} (h : DueAt H q M) (s : Same H H') : DueAt H' q M := by
  obtain ⟨t1, t2, t3, t4, t5, ws, h⟩ := h
  exact ⟨t1, t2, t3, t4, t5, ws, s _ _ h.q, s _ _ h.t1, h.as.same s, s _ _ h.t2, s _ _ h.t3, s _ _ h.t4, s _ _ h.t5⟩
/-- all but lists is kept -/
def KeepN (H H' : Hp) : Prop := ∀ b o, H b = some o → (∀ xs, o ≠ .lst xs) → H' b = some o
theorem KeepN.tup {H H' : Hp} {t : Addr} {xs : List V} (k : KeepN H H') (h : H t = some (.tup xs)) : H' t = some (.tup xs) := k _ _ h fun ys e => by cases e
theorem KeepN.ar {H H' : Hp} {ws : List V} {xs : List Arw} (k : KeepN H H') (h : ArS H ws xs) : ArS H' ws xs := Paired.mapP h fun v x ⟨q, e, hq⟩ => ⟨q, e, k.tup hq⟩
theorem KeepN.fz {H H' : Hp} {t : Addr} {xs : List V} (k : KeepN H H') (h : FzT H t xs) : FzT H' t xs := by
  obtain ⟨u, e, f⟩ := h
  exact ⟨u, k _ _ e f.nlst, f⟩
theorem KeepN.mach {C : Addr} {H H' : Hp} {m : Addr} {M : MachV} (k : KeepN H H') (h : IsMach C H m M) : IsMach C H' m M := by
  obtain ⟨dx, t1, t2, t3, t4, t5, ws, hI⟩ := h
  exact ⟨dx, t1, t2, t3, t4, t5, ws, k _ _ hI.ins (fun ys e => by cases e), k.tup hI.a1, k.ar hI.as, k.fz hI.a2, k.fz hI.a3, k.fz hI.a4, k.fz hI.a5⟩
theorem KeepN.due {H H' : Hp} {q : Addr} {M : MachV} (k : KeepN H H') (h : DueAt H q M) (e : ∀ o, H q = some o → H' q = some o) : DueAt H' q M := by
  obtain ⟨t1, t2, t3, t4, t5, ws, h⟩ := h
  exact ⟨t1, t2, t3, t4, t5, ws, e _ h.q, k.tup h.t1, k.ar h.as, k.tup h.t2, k.tup h.t3, k.tup h.t4, k.tup h.t5⟩
def spLDue (K : PySem.W.Frag) : Sp := fun vs H Q _ => ∃ (m a b e : Addr) (us : List V) (xs : List Arw) (ss es : List PySem.Str), vs = [.ref m] ∧ MadeL K H m a b e us xs ss es ∧ H b = some (.lst (ss.map V.str)) ∧ H e = some (.lst (es.map V.str)) ∧ (∀ x ∈ xs, x.Ok) ∧ ss.length + es.length + 2 * xs.length < 64 ∧
  ∀ (q : Addr) (M : MachV) (H' : Hp), H q = none → DueAt H' q M → MOf M xs ss es → Same H H' → Q (.ref q) H'
theorem MOf.all {M N : MachV} {xs : List Arw} {ss es : List PySem.Str} (h : MOf M xs ss es) (k : MOf N xs ss es) : M = N := by
  obtain ⟨e1, e2, e3⟩ := h.same k
  have e4 : M.sta = N.sta := asc_uniq h.sta.1 k.sta.1 fun z => by rw [h.sta.2, k.sta.2, e1]
  have e5 : M.lets = N.lets := asc_uniq h.lets.1 k.lets.1 fun z => by rw [h.lets.2, k.lets.2, e1]
  cases M
  cases N
  simp only at e1 e2 e3 e4 e5
  subst e1 e2 e3 e4 e5
  rfl
theorem lex_ke {x y : Arw} (h : x.k3 = y.k3) : lexK x.ks y.ks = decide (x.c < y.c) := by
  obtain ⟨a1, a2, a3⟩ := Arw.k3_eq h
  unfold Arw.ks
  rw [a1, a2, a3]
  simp only [lexK, if_true]
  by_cases e : (Sum.inl x.c : Ky) = .inl y.c
  · rw [if_pos e]
    have := Sum.inl.inj e
    exact (decide_eq_false (by omega)).symm
  · rw [if_neg e]
    rfl
/-! ### lengths of texts put together -/
theorem joinL_le (S : List Nat) : ∀ xs : List (List Nat), (TL.joinL S xs).length ≤ (xs.map (·.length)).sum + xs.length * S.length
  | [] => by simp [TL.joinL]
  | [x] => by simp [TL.joinL]
  | x :: y :: xs => by
    have ih := joinL_le S (y :: xs)
    simp only [TL.joinL, List.length_append, List.map_cons, List.sum_cons, List.length_cons, Nat.succ_mul] at ih ⊢
    omega
theorem join_le (a : PySem.Str) (ys : List PySem.Str) : (Txt.join a ys).length ≤ (ys.map (·.length)).sum + ys.length * a.length := by
  rw [len_tl, TL.join_eq, TL.tl_join]
  refine Nat.le_trans (joinL_le _ _) ?_
  rw [List.map_map, List.length_map, len_tl a]
  exact Nat.le_of_eq rfl
theorem cost_len {c : Int} (h0 : 0 ≤ c) (h1 : c ≤ 99) : (PySem.Str.ofString (toString c)).length ≤ 2 := by
  obtain ⟨n, rfl⟩ : ∃ n : Nat, c = n := ⟨c.toNat, by omega⟩
  have q : ∀ i : Fin 100, (PySem.Str.ofString (toString ((i.val : Nat) : Int))).length ≤ 2 := by decide +kernel
  exact q ⟨n, by omega⟩
end Bz

namespace Bz
open PySem PySem.Spec PyProof.Rows L2
/-! ### the law of machines told -/
structure GZ (xs : List Arw) (ss es ns : List PySem.Str) : Prop where
  ok : ∀ x ∈ xs, x.Ok
  nm : ∀ s ∈ ns, Nm s
  nl : ns.length ≤ 12
  xl : xs.length ≤ 11
  x1 : 1 ≤ xs.length
  sl : ss.length ≤ 6
  el : es.length ≤ 12
  si : ∀ s ∈ ss, s ∈ ns
  ei : ∀ s ∈ es, s ∈ ns
  ai : ∀ x ∈ xs, x.s ∈ ns ∧ x.t ∈ ns
  cl : ∀ x ∈ xs, x.c ≤ 10
/-- made, of lists, away from p -/
def MadeZ (K : PySem.W.Frag) (H : Hp) (p q a b e : Addr) (us : List V) (xs : List Arw) (ss es : List PySem.Str) : Prop := MadeL K H q a b e us xs ss es ∧ H a = some (.lst us) ∧ H b = some (.lst (ss.map V.str)) ∧ H e = some (.lst (es.map V.str)) ∧ a ≠ p ∧ b ≠ p ∧ e ≠ p
theorem MadeZ.same {K : PySem.W.Frag} {H H' : Hp} {p q a b e : Addr} {us : List V} {xs : List Arw} {ss es : List PySem.Str} (h : MadeZ K H p q a b e us xs ss es) (s : Same H H') : MadeZ K H' p q a b e us xs ss es := by
  obtain ⟨m, h1, h2, h3, r⟩ := h
  exact ⟨m.same s, s _ _ h1, s _ _ h2, s _ _ h3, r⟩
theorem MadeZ.ext {K : PySem.W.Frag} {H H' : Hp} {p q a b e : Addr} {c : Nat} {us : List V} {xs : List Arw} {ss es : List PySem.Str} (h : MadeZ K H p q a b e us xs ss es) (s : Src H p c) (x : Ext p H H') : MadeZ K H' p q a b e us xs ss es := by
  obtain ⟨m, h1, h2, h3, n1, n2, n3⟩ := h
  exact ⟨m.ext s n1 n2 n3 x, x _ _ n1 h1, x _ _ n2 h2, x _ _ n3 h3, n1, n2, n3⟩
def spOrder : Sp := fun vs H Q _ => ∃ (p : Addr) (n c : Nat), vs = [.ref p, .int (n : Nat)] ∧ Src H p c ∧ c ≤ 500000 ∧ 1 ≤ n ∧ n ≤ 20 ∧
  ∀ (q : Addr) (ks : List Nat) (H' : Hp), H q = none → H' q = some (.lst (ks.map fun k => V.int (k : Nat))) → ks.length = n → (∀ k ∈ ks, k < n) → Go p (c + n) H H' → Q (.ref q) H'
def spLOther (K : PySem.W.Frag) : Sp := fun vs H Q _ => ∃ (p m a b e : Addr) (us : List V) (xs : List Arw) (ss es ns : List PySem.Str) (c : Nat), vs = [.ref p, .ref m] ∧ Src H p c ∧ c ≤ 200000 ∧ MadeZ K H p m a b e us xs ss es ∧ GZ xs ss es ns ∧ xs.length ≤ 10 ∧ es.length ≤ 6 ∧ ns.length ≤ 11 ∧ (∀ x ∈ xs, x.c ≤ 9) ∧
  ∀ (q a' b' e' : Addr) (us' : List V) (xs' : List Arw) (ss' es' ns' : List PySem.Str) (H' : Hp), H q = none → MadeZ K H' p q a' b' e' us' xs' ss' es' → GZ xs' ss' es' ns' → Go p (c + 400) H H' → Q (.ref q) H'
theorem GZ.ln {xs : List Arw} {ss es ns : List PySem.Str} (g : GZ xs ss es ns) : ss.length + es.length + 2 * xs.length < 64 := by
  have := g.xl
  have := g.sl
  have := g.el
  omega
theorem GZ.fine {M : MachV} {xs : List Arw} {ss es ns : List PySem.Str} (g : GZ xs ss es ns) (h : MOf M xs ss es) : MFine M :=
  fine_of h g.ok (by have := g.xl; omega) g.nm (by have := g.nl; omega) g.si g.ei g.ai
theorem seqi {i : Int} {n : Nat} (h0 : 0 ≤ i) (h1 : i < n) : seqIndex? i n = some i.toNat := by
  unfold seqIndex?
  simp
  omega
/-- what is told is the same just if arrows, starts and ends are -/
theorem eqv_tell {M N : MachV} {xs ys : List Arw} {ss es ts fs : List PySem.Str} (h : MOf M xs ss es) (k : MOf N ys ts fs) : PyData.eqv (tellM M) (tellM N) = (decide (M.ars = N.ars) && (decide (M.sts = N.sts) && decide (M.ens = N.ens))) := by
  unfold tellM
  simp only [PyData.eqv, PyData.eqvAll]
  have e1 : PyData.eqvAll (M.ars.map dAr) (N.ars.map dAr) = decide (M.ars = N.ars) := eqvAll_map eqv_dAr _ _
  have es' : ∀ a b : List PySem.Str, PyData.eqvAll (a.map PyData.str) (b.map PyData.str) = decide (a = b) := fun a b => by
    have := eqv_dS a b
    unfold dS at this
    simp only [PyData.eqv] at this
    exact this
  rw [e1, es', es', es', es']
  by_cases c1 : M.ars = N.ars
  · by_cases c2 : M.sts = N.sts
    · by_cases c3 : M.ens = N.ens
      · have e4 : M.sta = N.sta := asc_uniq h.sta.1 k.sta.1 fun z => by rw [h.sta.2, k.sta.2, c1, ← h.sts.2, ← k.sts.2, c2, ← h.ens.2, ← k.ens.2, c3]
        have e5 : M.lets = N.lets := asc_uniq h.lets.1 k.lets.1 fun z => by rw [h.lets.2, k.lets.2, c1]
        rw [c1, c2, c3, e4, e5]
        simp
      · rw [decide_eq_false c3]
        simp
    · rw [decide_eq_false c2]
      simp
  · rw [decide_eq_false c1]
    simp
theorem layN {n : Nat} {ds : List PyData} (h : ∀ d ∈ ds, d.canLay0 = true ∧ d.depth ≤ n) : PyData.canLayAll0 ds = true ∧ PyData.depthAll ds ≤ n := by
  induction ds with
  | nil => exact ⟨by simp only [PyData.canLayAll0], by simp only [PyData.depthAll]; omega⟩
  | cons d ds ih =>
    obtain ⟨h1, h2⟩ := h d (List.mem_cons_self ..)
    obtain ⟨h3, h4⟩ := ih fun z hz => h z (List.mem_cons_of_mem _ hz)
    simp only [PyData.canLayAll0, PyData.depthAll, h1, h3]
    exact ⟨rfl, by omega⟩
theorem lay_tup {n : Nat} {ds : List PyData} (h : ∀ d ∈ ds, d.canLay0 = true ∧ d.depth ≤ n) : (PyData.tuple ds).canLay0 = true ∧ (PyData.tuple ds).depth ≤ n + 1 := by
  obtain ⟨h1, h2⟩ := layN h
  simp only [PyData.canLay0, PyData.depth]
  exact ⟨h1, by omega⟩
theorem lay_texts {ss : List PySem.Str} (h : ∀ s ∈ ss, ∀ c ∈ TL.tl s, Sg c) : (PyData.tuple (ss.map PyData.str)).canLay0 = true ∧ (PyData.tuple (ss.map PyData.str)).depth ≤ 2 := by
  obtain ⟨h1, h2⟩ := lay_dS h
  exact ⟨h1, h2⟩
theorem shaped_tell {M : MachV} (h : MFine M) (hl : ∀ l ∈ M.lets, ∀ c ∈ TL.tl l, Sg c) : SeqAt.shaped (tellM M) = true := by
  have sg : ∀ {ns : List PySem.Str}, (∀ s ∈ ns, s ∈ M.sta) → ∀ s ∈ ns, ∀ c ∈ TL.tl s, Sg c := fun hn s hs => (h.nm _ (hn s hs)).2.2
  have q : ∀ d ∈ [PyData.tuple (M.ars.map dAr), PyData.tuple (M.sts.map .str), PyData.tuple (M.ens.map .str), PyData.tuple (M.sta.map .str), PyData.tuple (M.lets.map .str)], d.canLay0 = true ∧ d.depth ≤ 2 := fun d hd => by
    simp only [List.mem_cons, List.not_mem_nil, or_false] at hd
    rcases hd with rfl | rfl | rfl | rfl | rfl
    · refine lay_tup fun d hd => ?_
      obtain ⟨x, hx, rfl⟩ := List.mem_map.mp hd
      have o := h.ok x hx
      exact lay_arw o.s.2.2 o.l.2 o.t.2.2
    · exact lay_texts (sg h.st)
    · exact lay_texts (sg h.en)
    · exact lay_texts (sg fun s hs => hs)
    · exact lay_texts hl
  obtain ⟨h1, h2⟩ := layN q
  unfold SeqAt.shaped tellM
  simp only [PyData.canLay0, PyData.depth, h1, Bool.true_and]
  exact decide_eq_true (by omega)
theorem erase_map {α β : Type} (f : α → β) (xs : List α) (k : Nat) : (xs.map f).eraseIdx k = (xs.eraseIdx k).map f := by
  induction xs generalizing k with
  | nil => simp
  | cons x xs ih =>
    cases k with
    | zero => simp
    | succ k => simp [ih]
theorem keepN_ext {H H' : Hp} {p : Addr} {c : Nat} (s : Src H p c) (x : Ext p H H') : KeepN H H' := fun b o e ne => x b o (fun z => by
  obtain ⟨g, sd, k, e2, _⟩ := s
  rw [z, e2] at e
  exact ne _ (Option.some.inj e).symm) e
end Bz

namespace Bz
open PySem PySem.Spec PyProof.Rows L2
/-! ### >= of tuples of texts -/
def geS (xs ys : List PySem.Str) : Bool := Ob.lexAt (fun j => decide (xs.getD j "" = ys.getD j "")) (fun j => !decide ((xs.getD j "").cps.toList < (ys.getD j "").cps.toList)) (decide (xs.length ≥ ys.length)) 0 (min xs.length ys.length)
def rGeS (K : PySem.W.Frag) : R2 := fun x y H Q => ∃ (a b : Addr) (xs ys : List PySem.Str), x = .ref a ∧ y = .ref b ∧ SqT K H a (xs.map V.str) ∧ SqT K H b (ys.map V.str) ∧ Q (.bl (geS xs ys)) H
theorem strs_at {its : List Value} {xs : List PySem.Str} (r : Vals (xs.map V.str) its) : ∀ j (h : j < its.toArray.size), ∃ t, its.toArray[j] = .str (xs.getD j "") t := by
  induction xs generalizing its with
  | nil => cases r; intro j h; exact absurd h (by simp)
  | cons x xs ih =>
    cases r with
    | cons a b =>
      intro j h
      cases j with
      | zero =>
        obtain ⟨t, e⟩ := a
        exact ⟨t, by simpa using e⟩
      | succ j =>
        obtain ⟨t, e⟩ := ih b j (by simpa using h)
        exact ⟨t, by simpa using e⟩
theorem op_geS {X : Cx} (hu : X.A.units < cLine) : OpR X (compareOp .GtE) (rGeS X.K) := by
  intro pins s σ H x y v u Q I rx ry h
  obtain ⟨a, b, xs, ys, rfl, rfl, ha, hb, q⟩ := h
  cases rx
  cases ry
  obtain ⟨its, r1, p1, _⟩ := I.tuple ha
  obtain ⟨its2, r2, p2, _⟩ := I.tuple hb
  have l1 : its.toArray.size = xs.length := by rw [List.size_toArray, ← r1.length, List.length_map]
  have l2 : its2.toArray.size = ys.length := by rw [List.size_toArray, ← r2.length, List.length_map]
  have k1 := strs_at r1
  have k2 := strs_at r2
  have R := Ob.RcOp.tuples_ge (A := X.A) (s := s) (e := fun j => decide (xs.getD j "" = ys.getD j "")) (r := fun j => !decide ((xs.getD j "").cps.toList < (ys.getD j "").cps.toList)) p1 p2 hu (fun j h1 h2 => by
    obtain ⟨t, e⟩ := k1 j h1
    obtain ⟨t', e'⟩ := k2 j h2
    rw [e, e']
    have z : (xs.getD j "" == ys.getD j "") = decide (xs.getD j "" = ys.getD j "") := by
      by_cases q : xs.getD j "" = ys.getD j ""
      · rw [decide_eq_true q]; exact beq_iff_eq.mpr q
      · rw [decide_eq_false q]; exact beq_eq_false_iff_ne.mpr q
    rw [← z]
    exact SeqAt.EqAt.str_str _ _ _ _) (fun j h1 h2 _ => by
    obtain ⟨t, e⟩ := k1 j h1
    obtain ⟨t', e'⟩ := k2 j h2
    rw [e, e']
    exact fun P w E Q h => PySem.P.ge_str h)
  rw [l1, l2] at R
  exact R X.prog X.w X.xe (EP X pins σ Q) ⟨.bl _, H, I, rfl, q⟩
theorem kgeS (K : PySem.W.Frag) {X : Cx} (hu : X.A.units < cLine) (h : X.K = K := by rfl) : OpR X (compareOp .GtE) (rGeS K) := by subst h; exact op_geS hu
theorem lts {a b : PySem.Str} (h : ltK (.inr a) (.inr b) = true) : decide (a.cps.toList < b.cps.toList) = true := h
theorem geS_asc {x y : Arw} (h : lexK x.k3 y.k3 = true) : geS [x.s, x.l, x.t] [y.s, y.l, y.t] = false := by
  unfold Arw.k3 at h
  unfold geS
  simp only [List.length_cons, List.length_nil, Nat.zero_add, Nat.reduceAdd, Nat.min_self, Ob.lexAt, List.getD_cons_zero, List.getD_cons_succ, Nat.lt_irrefl]
  simp only [lexK] at h
  by_cases e1 : x.s = y.s
  · rw [e1] at h ⊢
    simp only [decide_true, if_true] at h ⊢
    by_cases e2 : x.l = y.l
    · rw [e2] at h ⊢
      simp only [decide_true, if_true] at h ⊢
      by_cases e3 : x.t = y.t
      · rw [e3] at h
        simp at h
      · simp only [e3, decide_false, Bool.false_eq_true, if_false]
        rw [if_neg (by simpa using e3)] at h
        rw [lts h] <;> rfl
    · simp only [e2, decide_false, Bool.false_eq_true, if_false]
      rw [if_neg (by simpa using e2)] at h
      rw [lts h] <;> rfl
  · simp only [e1, decide_false, Bool.false_eq_true, if_false]
    rw [if_neg (by simpa using e1)] at h
    rw [lts h] <;> rfl
/-! ### cls(e, ..), cls a local that holds the class -/
def tMakeV (i : Nat) (C : Addr) (sp : Sp) (t : TA) : TE := fun σ H Q => σ[i]? = some (some (.ref C)) ∧ tMake C sp [] E0 t σ H Q
theorem pe_mkV {X : Cx} {C : Addr} {k j i : Nat} {x : PySem.Str} {ps : List PySem.Str} {sp : Sp} {e : Expr} {es : List Expr} {p pos : Pos} {t : TA} (M : Makes X.prog X.w X.K X.mg X.base C k ps sp) (hr : Room j X.A) (hN : X.N[i]? = some x) (hv : Vis X.env.scope x) (ha : PA X (e :: es) t) (hj : k + 1 ≤ j := by decide)
    (hd : (x == ("__debug__" : PySem.Str)) = false := by decide) (hcd : (x == ("__classdict__" : PySem.Str)) = false := by decide) (he : starEach (e :: es) X.env = (false, eval e X.env) :: starEach es X.env := by rfl) (hpl : (backTo pos (starEach es X.env)).any (·.1) = false := by rfl) :
    PE X (.Call (.Name x p) (e :: es) [] pos) (tMakeV i C sp t) := by
  obtain ⟨f, fd, M, F, hb⟩ := M.ex
  refine ⟨fun pins s σ H Q I h => ?_⟩
  obtain ⟨hs, h⟩ := h
  refine wpAny_Call_Name_kw (thn ((pe_var (pos := p) (i := i) hN hv hd hcd).run pins s σ H (fun v H1 => v = .ref C ∧ H1 = H) I ⟨.ref C, hs, rfl, rfl⟩) fun u s1 ⟨v, H1, I1, r1, q1⟩ => ?_)
  obtain ⟨ev, eH⟩ := q1
  subst ev
  rw [eH] at I1
  obtain rfl : u = Value.ref C := r1
  refine PySem.W.callWith_K (h₀ := X.base) I1.ok.mod.kin M.kp (thn (ha.run pos pins s1 σ H _ I1 h) fun us s2 ⟨vs, H2, I2, r, q⟩ => ⟨I2.kIn, ?_⟩) he hpl
  exact run_make M F (hr.mono hj) hb .nil pass0 I2 r q
/-! ### C.m(e, ..), m a classmethod -/
structure CmAt (K : PySem.W.Frag) (C : Addr) (m qual : PySem.Str) (st : Stmt) (ps : List PySem.Str) : Prop where
  ex : ∃ p g fd, ClX.CRead K C (.type "type") ∧ ClX.CMet K C (.type "type") m p g ∧ Fun K m qual st g fd ∧ Binds K fd ps []
structure KeepsC (P : Program) (w : World) (K : PySem.W.Frag) (mg : PySem.Str → Option Value) (base : Heap) (C : Addr) (k : Nat) (m : PySem.Str) (sp : Sp) : Prop where
  ex : ∃ p g, ClX.CRead K C (.type "type") ∧ ClX.CMet K C (.type "type") m p g ∧ FnR P w K mg base CX0 k g sp
theorem keepsC0 {P : Program} {w : World} {K : PySem.W.Frag} {mg : PySem.Str → Option Value} {base : Heap} {C : Addr} {k : Nat} {m qual : PySem.Str} {sp : Sp} {st : Stmt} {N ps : List PySem.Str} (D : CmAt K C m qual st ps) (S : FnScope N ps (defScope st)) (len : ∀ vs H Q E, sp vs H Q E → vs.length = ps.length)
    (hbody : ∀ (f : Addr) (cdv : Value) (A : Around) (outer : List Env) (s : Shared) (H : Hp) (vs : List V) (Q : VK) (E : XK), Room k (A.deeper (envOfC qual (defScope st) s.heap.objs.size f cdv)) → sp vs H Q E →
      ∃ t, PSs (cxOf CX0 P w K mg base N qual (defScope st) f cdv A outer s H E).nox (defBody st) t ∧ t { nx := fun _ H' => Q .non H', rt := Q } (start N vs) H) : KeepsC P w K mg base C (k + 1) m sp := by
  obtain ⟨p, g, fd, r, c, F, b⟩ := D.ex
  refine ⟨p, g, r, c, ?_⟩
  have z := (F.ok S len (hbody g)).raw b .nil
  exact z.imp fun vs H Q E h => by rw [List.append_nil]; exact h
theorem pe_cmK {X : Cx} {C : Addr} {k j : Nat} {m : PySem.Str} {sp : Sp} {o e : Expr} {es : List Expr} {pos apos : Pos} {ta : TE} {t : TA} {pl : Sem Bool} (M : KeepsC X.prog X.w X.K X.mg X.base C k m sp) (hr : Room j X.A) (ho : PE X o ta) (ha : PA X (e :: es) t) (hj : k ≤ j := by decide)
    (hst : starEach (e :: es) X.env = (false, eval e X.env) :: starEach es X.env := by rfl) (hpl : (backTo pos (starEach es X.env)).any (·.1) = false := by rfl)
    (ht : eval (.Call (.Attribute o m apos) (e :: es) [] pos) X.env = (do
      let ov ← eval o X.env
      standAt apos.atName
      let (f, first) ← holding [ov] (getMethod ov m pl)
      callWith pos f first (backTo pos (starEach (e :: es) X.env)) (backToKw pos (keywordEach [] X.env))) := by rfl) :
    PE X (.Call (.Attribute o m apos) (e :: es) [] pos) (ClX.tCMeth C sp E0 ta t) := by
  obtain ⟨p, g, r, c, F⟩ := M.ex
  exact ClX.pe_cmeth ho r c (F.mono hj) hr pass0 ha hst hpl ht
/-! ### enumerate(xs, start=b), xs a list -/
def ItN (K : PySem.W.Frag) (b : Int) (l : Addr) : It :=
  ⟨fun i H => ∃ (ys : List V) (y : V), SqL K H l ys ∧ ys[i]? = some y, fun i H v H' => ∃ q y, v = .ref q ∧ H q = none ∧ H' = upd H q (.tup [.int (b + (i : Int)), y]) ∧ ∀ ys, SqL K H l ys → ys[i]? = some y, fun i H => ∃ ys : List V, SqL K H l ys ∧ ys.length = i⟩
theorem turn_enumN {P : Program} {w : World} {K : PySem.W.Frag} {b : Int} {elts : List Expr} {kk : Nat} {tp : Pos} (l en it : Addr) :
    Turn P w K (.Tuple elts kk tp) (ItN K b l) [en, it] en (fun i h => (∃ old, IsEnum h en it (b + ((i : Nat) : Int)) old) ∧ h.IsListIter it l i ∧ en ≠ it) where
  mem := List.mem_cons_self ..
  obj := fun i h st c hb => by
    obtain ⟨⟨old, he⟩, ⟨o, ho, hc, hd⟩, _⟩ := st
    rcases List.mem_cons.mp hb with z | z
    · rw [z]
      exact ⟨_, he, fun v q => nomatch q⟩
    · rw [List.mem_singleton.mp z]
      exact ⟨o, ho, fun v q => by rw [hd] at q; cases q⟩
  keep := fun i h h' st k => ⟨⟨st.1.choose, k en (by simp) _ st.1.choose_spec⟩, st.2.1.at fun o q => k it (by simp) o q, st.2.2⟩
  item := by
    intro X hP hw hK hc i pins s σ H E I hf st hg
    subst hP hw hK
    obtain ⟨⟨old, he⟩, hit, hne⟩ := st
    obtain ⟨ys, y, hq, hy⟩ := hg
    obtain ⟨its, rv, pl, hz⟩ := I.list hq
    obtain ⟨u, hu, ru⟩ := rv.get hy
    have hen : en < s.heap.objs.size := Heap.lt_size he
    have hil : it < s.heap.objs.size := by
      obtain ⟨_, q, _⟩ := hit
      exact Heap.lt_size q
    have nli : l ≠ it := fun z => by
      obtain ⟨o1, q1, c1, _⟩ := hit
      obtain ⟨o2, q2, c2, _⟩ := pl.isList
      rw [z, q1] at q2
      cases q2
      rw [c1] at c2
      exact absurd (Value.type.inj c2) (by decide)
    have nle : l ≠ en := fun z => by
      obtain ⟨o2, q2, c2, _⟩ := pl.isList
      have he' : s.heap.get? en = some _ := he
      rw [z, he'] at q2
      cases q2
      exact absurd (Value.type.inj c2) (by decide)
    have D := Draws.list (prog := X.prog) (w := X.w) (A := X.A.in1) (I.ok.hd hc) it l nli its.toArray
    refine wpAny_pyNext_enum_itemC D he (i := i) ⟨hit, pl.isList⟩ ?_ hne (by simp [hne, Ne.symm nle]) fun x h' tk hx ho hst hT hsz hk => ?_
    · have := (List.getElem?_eq_some_iff.mp hu).1
      simpa using this
    have exu : x = u := by
      have q : its[i]? = some x := by simpa using hx
      rw [hu] at q
      exact (Option.some.inj q).symm
    subst exu
    refine ⟨_, rfl, wpAny_letOwnedTupleGo_enum (s := { s with heap := h', toks := tk + 1 }) ho fun h'' he'' sb => ?_⟩
    have hT2 : h''.get? s.heap.objs.size = some { cls := .type "tuple", data := .seq #[.int (b + (i : Int)) tk, x] } := (sb.2 _ (Nat.ne_of_gt hen)).trans hT
    have new : ObjOk X.prog X.w (upd H s.heap.objs.size (.tup [.int (b + (i : Int)), y])) h'' s.heap.objs.size (.tup [.int (b + (i : Int)), y]) :=
      ⟨Nat.le_of_ble_eq_true rfl, [.int (b + (i : Int)) tk, x], .cons ⟨_, rfl⟩ (.cons ru .nil), ⟨_, hT2, rfl, _, rfl⟩⟩
    have I1 : Inv X pins σ (upd H s.heap.objs.size (.tup [.int (b + (i : Int)), y])) { s with heap := h'', toks := tk + 1 } :=
      I.turnedNew (ch := [en, it]) (fun c ob hb q => (sb.2 c (fun z => hb (by simp [z]))).trans (hk c ob (fun z => hb (by simp [z])) (fun z => hb (by simp [z])) q)) hf (Nat.le_refl _) new
    refine ⟨.ref s.heap.objs.size, _, I1, rfl, ⟨_, y, rfl, I.hok.fresh (Nat.le_refl _), rfl, fun zs hzs => by rw [I.list_inj hzs hq]; exact hy⟩, ⟨⟨x, ?_⟩, hst.1.at fun o q => (sb.2 it (Ne.symm hne)).trans q, hne⟩, fun c hb => ?_⟩
    · have e1 : b + ((i + 1 : Nat) : Int) = b + (i : Int) + 1 := by omega
      rw [e1]
      exact he''
    · have hb' : c < s.heap.objs.size := by
        rcases List.mem_cons.mp hb with z | z
        · rw [z]; exact hen
        · rw [List.mem_singleton.mp z]; exact hil
      rw [upd_ne (Nat.ne_of_lt hb')]
      exact (hf c hb).1
  done := by
    intro X hP hw hK hc i pins s σ H E I hf st hg
    subst hP hw hK
    obtain ⟨⟨old, he⟩, hit, hne⟩ := st
    obtain ⟨ys, hq, hy⟩ := hg
    obtain ⟨its, rv, pl, hz⟩ := I.list hq
    obtain ⟨f0, f1, f2, f3, f4, f5⟩ := hf it (by simp)
    have hlen := rv.length
    have nli : l ≠ it := fun z => by
      obtain ⟨o1, q1, c1, _⟩ := hit
      obtain ⟨o2, q2, c2, _⟩ := pl.isList
      rw [z, q1] at q2
      cases q2
      rw [c1] at c2
      exact absurd (Value.type.inj c2) (by decide)
    have D := Draws.list (prog := X.prog) (w := X.w) (A := X.A.in1) (I.ok.hd hc) it l nli its.toArray
    have en : its.toArray.size = i := by
      rw [List.size_toArray]
      omega
    exact wpAny_pyNext_enum_endD D he ⟨by rw [en]; exact hit, pl.isList⟩ fun h' eb => ⟨rfl, I.turned (t' := s.toks) (fun c o hb q => eb c o hb q) f0 f1 f3 f4 f5⟩
  self := fun A i s Q E st h => wpAny_pyIter_enum st.1.choose_spec h
def iEnumN (K : PySem.W.Frag) (b : Int) (te : TE) : TI := fun σ H R => te σ H fun v H1 => ∃ l ys, v = .ref l ∧ SqL K H1 l ys ∧ R (ItN K b l) H1
theorem pi_enumN {X : Cx} {e : Expr} {te : TE} {p pos tpos kpos : Pos} {cpos : Pos} {elts : List Expr} {kk : Nat} {b : Int} {y : PySem.Str} (hb0 : 0 ≤ b) (hb1 : b < 1000) (hgy : Gl X y) (hmy : ∃ t, X.mg y = some (.int b t)) (hdy : (y == ("__debug__" : PySem.Str)) = false) (hg : Gl X "enumerate") (hm : X.mg "enumerate" = none) (he : PE X e te) (hs : starEach [e] X.env = [(false, eval e X.env)] := by rfl) :
    PI X (.Tuple elts kk tpos) (.Call (.Name "enumerate" p) [e] [⟨some "start", .Name y cpos, kpos⟩] pos) (iEnumN X.K b te) := by
  refine ⟨fun pins s σ H R I h => ?_⟩
  refine wpAny_Call_Name_kw (ld_blt I hg hm boot_enumerate ?_)
  rw [hs]
  show wpAny _ _ (callWith pos (Value.type "enumerate") [] [(false, eval e X.env)] [(some "start", do let v ← eval (.Name y cpos) X.env; standAt pos; pure v)]) _ _ _
  refine callTy_kw (thn (he.run pins s σ H _ I h) fun u s1 ⟨v, H1, I1, r1, l, ys, ev, hq, q⟩ => ?_)
  subst ev
  obtain rfl : u = Value.ref l := r1
  obtain ⟨tb, hmy⟩ := hmy
  refine wpAny_bind (ld_glob I1 hgy hmy (wpAny_bind (wpAny_standAt (wpAny_pure ?_))) hdy)
  have I2 := I1
  obtain ⟨its, rv, pl, hz⟩ := I2.list hq
  refine enum_begins_start (s := s1) (begins_list l its.toArray) pl.isList (Int.le_trans (by decide) hb0) (Int.lt_trans hb1 (by decide)) fun h' he' hit hsz hk => wpAny_pyIter_enum he' ?_
  have I3 : Inv X pins σ H1 { s1 with heap := h' } := I2.kept (t' := s1.toks) hk
  refine ⟨s1.heap.objs.size + 1, [s1.heap.objs.size + 1, s1.heap.objs.size], _, _, H1, rfl, I3, turn_enumN l (s1.heap.objs.size + 1) s1.heap.objs.size, ⟨⟨.none, by simpa using he'⟩, ⟨_, hit, rfl, rfl⟩, Nat.succ_ne_self _⟩, fun c hb => ?_, q⟩
  have hle : s1.heap.objs.size ≤ c := by
    rcases List.mem_cons.mp hb with z | z
    · rw [z]
      exact Nat.le_succ _
    · rw [List.mem_singleton.mp z]
      exact Nat.le_refl _
  exact I2.fpOk hle (I2.hok.fresh hle)
theorem kpi_enumN (K : PySem.W.Frag) {X : Cx} {e : Expr} {te : TE} {p pos tpos kpos : Pos} {cpos : Pos} {elts : List Expr} {kk : Nat} {b : Int} {y : PySem.Str} (hb0 : 0 ≤ b) (hb1 : b < 1000) (hgy : Gl X y) (hmy : ∃ t, X.mg y = some (.int b t)) (hdy : (y == ("__debug__" : PySem.Str)) = false) (hg : Gl X "enumerate") (hm : X.mg "enumerate" = none) (he : PE X e te)
    (hs : starEach [e] X.env = [(false, eval e X.env)] := by rfl) (h : X.K = K := by rfl) : PI X (.Tuple elts kk tpos) (.Call (.Name "enumerate" p) [e] [⟨some "start", .Name y cpos, kpos⟩] pos) (iEnumN K b te) := by
  subst h
  exact pi_enumN hb0 hb1 hgy hmy hdy hg hm he hs
theorem walk_enumN {K : PySem.W.Frag} {b : Int} {l : Addr} {ys : List V} : Walk (ItN K b l) ys.length (fun H => SqL K H l ys) (fun i H v H' => ∃ q y, v = .ref q ∧ H q = none ∧ H' = upd H q (.tup [.int (b + (i : Int)), y]) ∧ ys[i]? = some y) :=
  ⟨fun i _ hi q => ⟨ys, ys[i], q, by simp [hi]⟩, fun _ q => ⟨ys, q, rfl⟩, fun _ _ _ _ _ q ⟨a, b, c, d, e, f⟩ => ⟨a, b, c, d, e, f ys q⟩⟩
/-! ### the text of a machine -/
theorem tl_sp : TL.tl (" " : PySem.Str) = [32] := by decide +kernel
theorem tl_nl : TL.tl ("\n" : PySem.Str) = [10] := by decide +kernel
theorem cps_sp : (" " : PySem.Str).cps.all (· < 256) = true := by decide +kernel
theorem cps_nl : ("\n" : PySem.Str).cps.all (· < 256) = true := by decide +kernel
def costS (c : Int) : PySem.Str := PySem.Str.ofString (toString c)
def arP (x : Arw) : List PySem.Str := [x.s, x.l, x.t, costS x.c]
def arL (x : Arw) : PySem.Str := Txt.join " " (arP x)
def linesM (ss es : List PySem.Str) (xs : List Arw) : List PySem.Str := Txt.join " " ("start" :: ss) :: Txt.join " " ("end" :: es) :: xs.map arL
def textM (ss es : List PySem.Str) (xs : List Arw) : PySem.Str := Txt.join "\n" (linesM ss es xs)
theorem cost_tab : ∀ i : Fin 100, (costS ((i.val : Nat) : Int)).length ≤ 2 ∧ 1 ≤ (costS ((i.val : Nat) : Int)).length ∧ Txt.isascii (costS ((i.val : Nat) : Int)) = true ∧ Txt.isdigit (costS ((i.val : Nat) : Int)) = true ∧ PySem.intText? (costS ((i.val : Nat) : Int)) = some ((i.val : Nat) : Int) ∧ ((TL.tl (costS ((i.val : Nat) : Int))).all fun c => decide (48 ≤ c) && decide (c ≤ 57)) = true := by decide +kernel
structure CostS (c : Int) : Prop where
  l2 : (costS c).length ≤ 2
  l1 : 1 ≤ (costS c).length
  a : Txt.isascii (costS c) = true
  d : Txt.isdigit (costS c) = true
  i : PySem.intText? (costS c) = some c
  s : ∀ k ∈ TL.tl (costS c), 48 ≤ k ∧ k ≤ 57
theorem cost_ok {c : Int} (h0 : 0 ≤ c) (h1 : c ≤ 99) : CostS c := by
  obtain ⟨n, rfl⟩ : ∃ n : Nat, c = n := ⟨c.toNat, by omega⟩
  obtain ⟨a, b, d, e, f, g⟩ := cost_tab ⟨n, by omega⟩
  refine ⟨a, b, d, e, f, fun k hk => ?_⟩
  have := List.all_eq_true.mp g k hk
  simpa using this
theorem word_sg {s : PySem.Str} (h : ∀ c ∈ TL.tl s, Sg c) : (32 : Nat) ∉ TL.tl s ∧ (10 : Nat) ∉ TL.tl s := ⟨fun z => by have := (h _ z).1; omega, fun z => by have := (h _ z).1; omega⟩
theorem word_start : (32 : Nat) ∉ TL.tl ("start" : PySem.Str) ∧ (10 : Nat) ∉ TL.tl ("start" : PySem.Str) := by decide +kernel
theorem word_end : (32 : Nat) ∉ TL.tl ("end" : PySem.Str) ∧ (10 : Nat) ∉ TL.tl ("end" : PySem.Str) := by decide +kernel
def WordOk (s : PySem.Str) : Prop := (32 : Nat) ∉ TL.tl s ∧ (10 : Nat) ∉ TL.tl s
theorem arP_ok {x : Arw} (h : x.Ok) : ∀ p ∈ arP x, WordOk p := by
  intro p hp
  unfold arP at hp
  simp only [List.mem_cons, List.not_mem_nil, or_false] at hp
  rcases hp with rfl | rfl | rfl | rfl
  · exact word_sg h.s.2.2
  · exact word_sg h.l.2
  · exact word_sg h.t.2.2
  · have q := (cost_ok h.c0 h.c1).s
    exact ⟨fun z => by have := (q _ z).1; omega, fun z => by have := (q _ z).1; omega⟩
/-- a line of words cut at its blanks -/
theorem split_sp {ws : List PySem.Str} (hne : ws ≠ []) (h : ∀ p ∈ ws, WordOk p) : Txt.split (Txt.join " " ws) " " = ws := TL.split_join tl_sp cps_sp hne fun p hp => (h p hp).1
theorem joinL_mem {c : Nat} {S : List Nat} (hS : c ∉ S) : ∀ {xs : List (List Nat)}, (∀ p ∈ xs, c ∉ p) → c ∉ TL.joinL S xs
  | [], _ => by simp [TL.joinL]
  | [x], h => by simpa [TL.joinL] using h
  | x :: y :: xs, h => by
    have ih := joinL_mem hS (xs := y :: xs) fun p hp => h p (List.mem_cons_of_mem _ hp)
    intro z
    have z' : c ∈ x ++ S ++ TL.joinL S (y :: xs) := by
      first | exact z | (simpa only [TL.joinL, List.append_assoc] using z)
    rcases List.mem_append.mp z' with z | z
    · rcases List.mem_append.mp z with z | z
      · exact h x (List.mem_cons_self ..) z
      · exact hS z
    · exact ih z
theorem line_nl {ws : List PySem.Str} (h : ∀ p ∈ ws, WordOk p) : (10 : Nat) ∉ TL.tl (Txt.join " " ws) := by
  rw [TL.join_eq, TL.tl_join, tl_sp]
  refine joinL_mem (by decide) fun p hp => ?_
  obtain ⟨z, hz, rfl⟩ := List.mem_map.mp hp
  exact (h z hz).2
theorem line_len {ws : List PySem.Str} {n : Nat} (h : ∀ p ∈ ws, p.length ≤ n) : (Txt.join " " ws).length ≤ (n + 1) * ws.length := by
  refine Nat.le_trans (join_le _ _) ?_
  have lsp : ((" " : PySem.Str)).length = 1 := by decide +kernel
  have : ∀ {ws : List PySem.Str}, (∀ p ∈ ws, p.length ≤ n) → (ws.map (·.length)).sum ≤ n * ws.length := by
    intro ws
    induction ws with
    | nil => simp
    | cons s ls ih =>
      intro h
      have h1 := ih fun t ht => h t (List.mem_cons_of_mem _ ht)
      have h2 := h s (List.mem_cons_self ..)
      rw [List.map_cons, List.sum_cons, List.length_cons, Nat.mul_succ]
      omega
  have := this h
  rw [lsp, Nat.add_mul]
  omega
/-- what the lines of a text ask -/
structure TxtOk (ss es : List PySem.Str) (xs : List Arw) : Prop where
  ok : ∀ x ∈ xs, x.Ok
  sn : ∀ s ∈ ss, Nm s
  en : ∀ s ∈ es, Nm s
  xl : xs.length ≤ 400
  sl : ss.length ≤ 40
  el : es.length ≤ 40
  sa : Asc ss
  ea : Asc es
  xa : xs.Pairwise fun x y => lexK x.k3 y.k3 = true
theorem TxtOk.lines_ne {ss es : List PySem.Str} {xs : List Arw} (h : TxtOk ss es xs) : ∀ p ∈ linesM ss es xs, (10 : Nat) ∉ TL.tl p := by
  intro p hp
  unfold linesM at hp
  simp only [List.mem_cons, List.mem_map] at hp
  rcases hp with rfl | rfl | ⟨x, hx, rfl⟩
  · exact line_nl fun q hq => (List.mem_cons.mp hq).elim (fun e => by rw [e]; exact word_start) fun hq => word_sg (h.sn q hq).2.2
  · exact line_nl fun q hq => (List.mem_cons.mp hq).elim (fun e => by rw [e]; exact word_end) fun hq => word_sg (h.en q hq).2.2
  · exact line_nl (arP_ok (h.ok x hx))
theorem TxtOk.split {ss es : List PySem.Str} {xs : List Arw} (h : TxtOk ss es xs) : Txt.split (textM ss es xs) "\n" = linesM ss es xs := TL.split_join tl_nl cps_nl (by unfold linesM; simp) h.lines_ne
theorem arP_len {x : Arw} (h : x.Ok) : ∀ p ∈ arP x, p.length ≤ 8 := by
  intro p hp
  unfold arP at hp
  simp only [List.mem_cons, List.not_mem_nil, or_false] at hp
  rcases hp with rfl | rfl | rfl | rfl
  · exact h.s.2.1
  · have := h.l.1; omega
  · exact h.t.2.1
  · have := (cost_ok h.c0 h.c1).l2; omega
theorem arL_len {x : Arw} (h : x.Ok) : (arL x).length ≤ 36 := line_len (n := 8) (arP_len h)
theorem TxtOk.lines_len {ss es : List PySem.Str} {xs : List Arw} (h : TxtOk ss es xs) : ∀ p ∈ linesM ss es xs, p.length ≤ 369 := by
  have l5 : ("start" : PySem.Str).length = 5 := by decide +kernel
  have l3 : ("end" : PySem.Str).length = 3 := by decide +kernel
  intro p hp
  unfold linesM at hp
  simp only [List.mem_cons, List.mem_map] at hp
  have sl := h.sl
  have el := h.el
  rcases hp with rfl | rfl | ⟨x, hx, rfl⟩
  · refine Nat.le_trans (line_len (n := 8) fun q hq => (List.mem_cons.mp hq).elim (fun e => by rw [e, l5]; omega) fun hq => (h.sn q hq).2.1) ?_
    rw [List.length_cons]; omega
  · refine Nat.le_trans (line_len (n := 8) fun q hq => (List.mem_cons.mp hq).elim (fun e => by rw [e, l3]; omega) fun hq => (h.en q hq).2.1) ?_
    rw [List.length_cons]; omega
  · have := arL_len (h.ok x hx); omega
theorem sum_le {ws : List PySem.Str} {n : Nat} (h : ∀ p ∈ ws, p.length ≤ n) : (ws.map (·.length)).sum ≤ n * ws.length := by
  induction ws with
  | nil => simp
  | cons s ls ih =>
    have h1 := ih fun t ht => h t (List.mem_cons_of_mem _ ht)
    have h2 := h s (List.mem_cons_self ..)
    rw [List.map_cons, List.sum_cons, List.length_cons, Nat.mul_succ]
    omega
theorem linesM_len (ss es : List PySem.Str) (xs : List Arw) : (linesM ss es xs).length = xs.length + 2 := by unfold linesM; simp
theorem TxtOk.fit {ss es : List PySem.Str} {xs : List Arw} (h : TxtOk ss es xs) : ((linesM ss es xs).map (·.length)).sum + (linesM ss es xs).length * ("\n" : PySem.Str).length ≤ 200000 := by
  have l1 : ("\n" : PySem.Str).length = 1 := by decide +kernel
  have := sum_le h.lines_len
  rw [linesM_len] at this ⊢
  have := h.xl
  rw [l1]
  omega
theorem TxtOk.len {ss es : List PySem.Str} {xs : List Arw} (h : TxtOk ss es xs) : (textM ss es xs).length ≤ 200000 := Nat.le_trans (join_le _ _) h.fit
/-- the written line is the one put together -/
theorem arL_f (x : Arw) : PySem.Str.empty ++ x.s ++ " " ++ x.l ++ " " ++ x.t ++ " " ++ PySem.Str.ofString (toString x.c) = arL x := by
  refine TL.ext_tl ?_
  unfold arL arP
  rw [TL.join_eq, TL.tl_join]
  simp only [TL.tl_append, List.map_cons, List.map_nil, TL.joinL]
  have e : TL.tl PySem.Str.empty = [] := rfl
  rw [e]
  simp [costS]
/-! ### what the readers promise -/
def spIsNumber : Sp := fun vs H Q _ => ∃ c : Int, vs = [.str (costS c)] ∧ 0 ≤ c ∧ c ≤ 99 ∧ Q (.bl true) H
def spReadArrow : Sp := fun vs H Q _ => ∃ x : Arw, vs = [.str (arL x)] ∧ x.Ok ∧ ∀ (q : Addr) (H' : Hp), H q = none → H' q = some (.tup x.vals) → Same H H' → Q (.ref q) H'
def spReadNames (K : PySem.W.Frag) : Sp := fun vs H Q _ => ∃ (a : Addr) (ls ns : List PySem.Str) (word : PySem.Str) (n : Nat), vs = [.ref a, .int (n + 1 : Nat), .str word] ∧ SqL K H a (ls.map V.str) ∧ ls.length ≤ 1000 ∧ ls[n]? = some (Txt.join " " (word :: ns)) ∧ WordOk word ∧ word.length ≤ 8 ∧ (∀ s ∈ ns, Nm s) ∧ ns.length ≤ 40 ∧ Asc ns ∧
  ∀ (q : Addr) (H' : Hp), H q = none → H' q = some (.lst (ns.map V.str)) → Same H H' → Q (.ref q) H'
def spReadArrows (K : PySem.W.Frag) : Sp := fun vs H Q _ => ∃ (a : Addr) (l1 l2 : PySem.Str) (xs : List Arw), vs = [.ref a] ∧ SqL K H a ((l1 :: l2 :: xs.map arL).map V.str) ∧ (∀ x ∈ xs, x.Ok) ∧ xs.length ≤ 400 ∧ (xs.Pairwise fun x y => lexK x.k3 y.k3 = true) ∧
  ∀ (q : Addr) (ws : List V) (H' : Hp), H q = none → H' q = some (.lst ws) → ArS H' ws xs → Same H H' → Q (.ref q) H'
def spParse (K : PySem.W.Frag) (C : Addr) : Sp := fun vs H Q _ => ∃ (ss es ns : List PySem.Str) (xs : List Arw), vs = [.ref C, .str (textM ss es xs)] ∧ TxtOk ss es xs ∧ ns.length ≤ 40 ∧ (∀ s ∈ ss, s ∈ ns) ∧ (∀ s ∈ es, s ∈ ns) ∧ (∀ x ∈ xs, x.s ∈ ns ∧ x.t ∈ ns) ∧
  ∀ (m : Addr) (M : MachV) (H' : Hp), H m = none → IsMach C H' m M → MOf M xs ss es → Same H H' → Q (.ref m) H'
def spTextX (C : Addr) : Sp := fun vs H Q _ => ∃ (m : Addr) (M : MachV), vs = [.ref m] ∧ IsMach C H m M ∧ MFine M ∧ ∀ H', Same H H' → Q (.str (textM M.sts M.ens M.ars)) H'
def spLText (K : PySem.W.Frag) : Sp := fun vs H Q _ => ∃ (m a b e : Addr) (us : List V) (xs : List Arw) (ss es : List PySem.Str), vs = [.ref m] ∧ MadeL K H m a b e us xs ss es ∧ (∀ x ∈ xs, x.Ok) ∧ xs.length ≤ 100 ∧ ss.length < 40 ∧ es.length < 40 ∧ (∀ s ∈ ss, Nm s) ∧ (∀ s ∈ es, Nm s) ∧
  ∀ (so eo : List PySem.Str) (ys : List Arw) (H' : Hp), CheapOf xs ys → (Asc so ∧ ∀ k, k ∈ so ↔ k ∈ ss) → (Asc eo ∧ ∀ k, k ∈ eo ↔ k ∈ es) → Same H H' → Q (.str (textM so eo ys)) H'
/-- parts, each new and empty or the old one -/
def PartI (p D : Addr) (os : List V) (c : Nat) (H3 : Hp) (i : Nat) (acc : List V) (H' : Hp) : Prop :=
  acc.length = i ∧ Go p (c + i) H3 H' ∧ ∀ (j : Nat) (v : V), acc[j]? = some v → ∃ l : Addr, v = V.ref l ∧ l ≠ D ∧ l ≠ p ∧ (H' l = some (.lst []) ∨ os[j]? = some v)
theorem PartI.upd {p D : Addr} {os : List V} {c : Nat} {H3 : Hp} {i : Nat} {acc : List V} {H' : Hp} {o : HO} (hD : H3 D = none) (h : PartI p D os c H3 i acc H') : PartI p D os c H3 i acc (upd H' D o) := by
  obtain ⟨h1, h2, h3⟩ := h
  refine ⟨h1, h2.mut hD, fun j v e => ?_⟩
  obtain ⟨l, e1, e2, e3, e4⟩ := h3 j v e
  exact ⟨l, e1, e2, e3, e4.imp (fun z => (upd_ne e2).trans z) id⟩
theorem three {α : Type} {xs : List α} (h : xs.length = 3) : ∃ a b c, xs = [a, b, c] := by
  match xs, h with
  | [a, b, c], _ => exact ⟨a, b, c, rfl⟩
theorem cheap_selfA {ys : List Arw} (h : ys.Pairwise fun x y => lexK x.k3 y.k3 = true) : CheapOf ys ys := by
  refine ⟨h, fun y hy => ⟨hy, fun x hx e => ?_⟩, fun x hx => ⟨x, hx, rfl⟩⟩
  have z : x = y := by
    obtain ⟨i, hi, ei⟩ := List.getElem_of_mem hx
    obtain ⟨j, hj, ej⟩ := List.getElem_of_mem hy
    rcases Nat.lt_trichotomy i j with l | l | l
    · have q := List.pairwise_iff_getElem.mp h i j hi hj l
      rw [ei, ej, e, lexK_irr] at q
      cases q
    · subst l
      rw [← ei, ← ej]
    · have q := List.pairwise_iff_getElem.mp h j i hj hi l
      rw [ei, ej, e, lexK_irr] at q
      cases q
  rw [z]
  exact Int.le_refl _
/-- the machine read back is the machine -/
theorem MOf.back {M N : MachV} {xs zs : List Arw} {ss es so eo : List PySem.Str} (h : MOf M xs ss es) (hC : CheapOf xs zs) (hso : Asc so ∧ ∀ k, k ∈ so ↔ k ∈ ss) (heo : Asc eo ∧ ∀ k, k ∈ eo ↔ k ∈ es) (k : MOf N zs so eo) : M.ars = zs ∧ M.sts = so ∧ M.ens = eo ∧ N = M := by
  have e1 : M.ars = zs := h.ars.uniq hC
  have e2 : M.sts = so := asc_uniq h.sts.1 hso.1 fun z => (h.sts.2 z).trans (hso.2 z).symm
  have e3 : M.ens = eo := asc_uniq h.ens.1 heo.1 fun z => (h.ens.2 z).trans (heo.2 z).symm
  refine ⟨e1, e2, e3, k.all ⟨?_, ⟨h.sts.1, fun z => (h.sts.2 z).trans (hso.2 z).symm⟩, ⟨h.ens.1, fun z => (h.ens.2 z).trans (heo.2 z).symm⟩, ⟨h.sta.1, fun z => ?_⟩, h.lets⟩⟩
  · rw [e1]
    exact cheap_selfA hC.asc
  · rw [h.sta.2, hso.2, heo.2]
end Bz

namespace Bz
open PySem PySem.Spec PyProof.Rows L2
/-! ### several clauses, each with or without a name of its own -/
abbrev Cl1 := Value × Option Nat × (Addr → Value → Option Addr → TS)
def endsOff (o : Option Nat) (D : Ends) : Ends := match o with
  | some i => { nx := fun σ' H' => D.nx (σ'.set i none) H', rt := D.rt, bk := fun σ' H' => D.bk (σ'.set i none) H', ct := fun σ' H' => D.ct (σ'.set i none) H' }
  | none => D
def slotOn (o : Option Nat) (a : Addr) (σ : L2.St) : L2.St := match o with
  | some i => σ.set i (some (.ref a))
  | none => σ
def wClauses (K : PySem.W.Frag) (Wo : WX) (D : Ends) : List Cl1 → WX
  | [] => Wo
  | (c, o, ts) :: r => fun cls d σ H => ∃ b, PySem.W.exmOne K cls c = some b ∧ (b = true → ∀ a, H a = none → ts a cls d (endsOff o D) (slotOn o a σ) H) ∧ (b = false → wClauses K Wo D r cls d σ H)
inductive Clauses (X : Cx) : List ExceptHandler → List Cl1 → Prop
  | nil : Clauses X [] []
  | plain {x : PySem.Str} {c : Value} {ts : Addr → Value → Option Addr → TS} {b₁ : Stmt} {bs : List Stmt} {p q : Pos} {hs : List ExceptHandler} {ls : List Cl1} (nm : Names X x c)
      (run : ∀ (a : Addr) (oe : Obj) (cls : Value) (d : Option Addr) (pn : List (Addr × Obj)), Zc cls d oe → (∃ vs, oe.data = .fields vs) → PSs (X.suite a ((a, oe) :: pn)) (b₁ :: bs) (ts a cls d)) (rest : Clauses X hs ls) :
      Clauses X (.ExceptHandler (some (.Name x p)) none (b₁ :: bs) q :: hs) ((c, none, ts) :: ls)
  | named {x n : PySem.Str} {i : Nat} {c : Value} {ts : Addr → Value → Option Addr → TS} {b₁ : Stmt} {bs : List Stmt} {p q : Pos} {hs : List ExceptHandler} {ls : List Cl1} (nd : X.N.Nodup) (at_ : X.N[i]? = some n) (kd : X.env.kindOf n = some .local) (nm : Names X x c)
      (run : ∀ (a : Addr) (oe : Obj) (cls : Value) (d : Option Addr) (pn : List (Addr × Obj)), Zc cls d oe → (∃ vs, oe.data = .fields vs) → PSs (X.suite a ((a, oe) :: pn)) (b₁ :: bs) (ts a cls d)) (rest : Clauses X hs ls) :
      Clauses X (.ExceptHandler (some (.Name x p)) (some n) (b₁ :: bs) q :: hs) ((c, some i, ts) :: ls)
section
variable {X : Cx} {Wo : WX} {D : Ends}
/-- the error at e has landed: what is known of the place -/
structure Landed (X : Cx) (pins : List (Addr × Obj)) (e : Addr) (B : Heap) (u v : Shared) (τ : L2.St) (G : Hp) (cls : Value) (d : Option Addr) : Prop where
  old : Inv X pins τ G u
  grd : ∀ b o, u.heap.get? b = some o → b ∉ frs X.stack → B.get? b = some o
  ups : u.heap.UpToSlots v.heap
  fly : HandSPX.FlyingZ B (X.env :: X.outer) e (Zc cls d) v.heap
  new : G e = none
  oss : v.os = u.os
  gen : AllBare v.gens
theorem Landed.nFr {pins : List (Addr × Obj)} {e : Addr} {B : Heap} {u v : Shared} {τ : L2.St} {G : Hp} {cls : Value} {d : Option Addr} (Z : Landed X pins e B u v τ G cls d) : e ∉ frs (X.env :: X.outer) := fun hm => by
  obtain ⟨oe, vs, he, _, hd⟩ := Z.fly.there
  obtain ⟨_, o2, e2, no⟩ := (show v.heap.FunFrames B (X.env :: X.outer) from Z.fly.2.2.1).mem hm
  rw [he] at e2
  cases e2
  exact no _ hd
theorem Landed.nLoc {pins : List (Addr × Obj)} {e : Addr} {B : Heap} {u v : Shared} {τ : L2.St} {G : Hp} {cls : Value} {d : Option Addr} (Z : Landed X pins e B u v τ G cls d) (hf : X.env.frame = some X.env.locals) : e ≠ X.env.locals := fun z =>
  Z.nFr (List.mem_filterMap.mpr ⟨X.env, List.mem_cons_self, hf.trans (congrArg some z.symm)⟩)
theorem Landed.nFs {pins : List (Addr × Obj)} {e : Addr} {B : Heap} {u v : Shared} {τ : L2.St} {G : Hp} {cls : Value} {d : Option Addr} (Z : Landed X pins e B u v τ G cls d) : e ∉ X.fs := fun hm => by
  obtain ⟨ev, h1, h2⟩ := List.mem_filterMap.mp hm
  exact Z.nFr (List.mem_filterMap.mpr ⟨ev, .tail _ h1, h2⟩)
theorem Landed.inv {pins : List (Addr × Obj)} {e : Addr} {B : Heap} {u v : Shared} {τ : L2.St} {G : Hp} {cls : Value} {d : Option Addr} (Z : Landed X pins e B u v τ G cls d) : Inv X pins τ G v := Z.old.landed Z.grd Z.fly.1 Z.ups Z.oss Z.gen
/-- in a clause's suite -/
theorem Landed.inS {pins : List (Addr × Obj)} {e : Addr} {B : Heap} {u v : Shared} {τ : L2.St} {G : Hp} {cls : Value} {d : Option Addr} (Z : Landed X pins e B u v τ G cls d) (hf : X.env.frame = some X.env.locals) :
    ∃ oe vs, Zc cls d oe ∧ oe.data = .fields vs ∧ v.heap.get? e = some oe ∧ Inv (X.suite e ((e, oe) :: (X.pn ++ pins))) [] τ G v := by
  obtain ⟨oe, vs, he, hz, hd⟩ := Z.fly.there
  exact ⟨oe, vs, hz, hd, he, Z.inv.suite he hd Z.new (Z.nLoc hf) Z.nFs⟩
theorem Landed.more {pins : List (Addr × Obj)} {e : Addr} {B : Heap} {u v : Shared} {τ : L2.St} {G : Hp} {cls : Value} {d : Option Addr} (Z : Landed X pins e B u v τ G cls d) {h : Heap} (f : HandSPX.FlyingZ B (X.env :: X.outer) e (Zc cls d) h) (k : v.heap.UpToSlots h) : Landed X pins e B u { v with heap := h } τ G cls d :=
  ⟨Z.old, Z.grd, Z.ups.trans k, f, Z.new, Z.oss, Z.gen⟩
/-- a clause's class is asked -/
theorem Landed.ask {pins : List (Addr × Obj)} {e : Addr} {B : Heap} {u v : Shared} {τ : L2.St} {G : Hp} {cls : Value} {d : Option Addr} (Z : Landed X pins e B u v τ G cls d) (hf : X.env.frame = some X.env.locals) {x : PySem.Str} {p : Pos} {c : Value} {Q E : Value → Shared → Prop} (nm : Names X x c) (q : Q c v) :
    wpAny (model X.prog X.w) (X.A.mark (some (.ref e))) (eval (.Name x p) X.env) Q E v := by
  obtain ⟨oe, vs, hz, hd, he, S⟩ := Z.inS hf
  obtain ⟨gl, db, k | ⟨k, bt, nn⟩⟩ := nm
  · exact ld_glob (X := X.suite e ((e, oe) :: (X.pn ++ pins))) S gl k q db
  · exact ld_blt (X := X.suite e ((e, oe) :: (X.pn ++ pins))) S gl k bt q nn db
theorem Landed.look {pins : List (Addr × Obj)} {e : Addr} {B : Heap} {u v : Shared} {τ : L2.St} {G : Hp} {cls : Value} {d : Option Addr} (Z : Landed X pins e B u v τ G cls d) : PySem.W.Looks (model X.prog X.w) v.heap (typeOf (.ref e)) cls := by
  obtain ⟨oe, vs, he, hz, hd⟩ := Z.fly.there
  exact fun A Q E s k q => wpAny_typeOf_ref (k _ _ he) (by rw [hz.1] <;> exact q)
/-- the clauses are asked, one behind the other, of an error that has landed -/
theorem clauses_run (hst : X.stack = X.env :: X.outer) (hf : X.env.frame = some X.env.locals) (tk : Takes X Wo) {pins : List (Addr × Obj)} {e : Addr} {B : Heap} {u : Shared} {τ : L2.St} {G : Hp} {cls : Value} {d : Option Addr} {hs : List ExceptHandler} {ls : List Cl1} (C : Clauses X hs ls) :
    ∀ (v : Shared), Landed X pins e B u v τ G cls d → wClauses X.K Wo D ls cls d τ G → wpAny (model X.prog X.w) X.A (handleBy (.ref e) X.env hs) (SP X pins D) X.xe v := by
  induction C with
  | nil =>
    intro v Z w
    refine wpAny_handleBy_nil ?_
    obtain ⟨_, _, _, oe, vs, T, oT, ts, he, _, hd, h1, _⟩ := id Z.fly
    unfold PySem.passOn
    refine wpAny_bind (wpAny_field he hd h1 ?_)
    rw [if_neg (show ¬ ((Value.ref T == Value.none) = true) from by simp)]
    have last : wpAny (model X.prog X.w) X.A (setFlight (.ref e) X.env.frame) (fun _ s4 => wpAny (model X.prog X.w) X.A (throw (.ref e) : Sem Flow) (SP X pins D) X.xe s4) X.xe v := by
      rw [hf]
      exact HandSPX.setFlight_upZ Z.fly fun h4 held k4 => wpAny_throw (tk _ _ ⟨e, B, u, pins, τ, G, cls, d, rfl, Z.old, Z.grd, Z.ups.trans k4, .inr (.inr (by rw [hst] <;> exact held)), Z.new, Z.oss, Z.gen, w⟩)
    first | exact wpAny_bind (wpAny_pure (wpAny_bind last)) | exact wpAny_bind last
  | @plain x c ts b₁ bs p q hs ls nm run rest ih =>
    rintro v Z ⟨b, hb, yes, no⟩
    refine wpAny_handleBy_cons (codeAny_handlers_test (Z.ask hf nm ((PySem.W.exm_one (M := model X.prog X.w) Z.inv.kIn Z.look hb).here ?_))) (by intro z; cases z)
    cases b with
    | false => exact ih v Z (no rfl)
    | true =>
      refine codeAny_handlers_suite (HandSPX.lands_againZ Z.fly fun h4 f4 k4 => ?_)
      have Z4 := Z.more f4 k4
      obtain ⟨oe, vs, hz, hd, he, S⟩ := Z4.inS hf
      refine wpAny_mono ((run e oe cls d (X.pn ++ pins) hz ⟨_, hd⟩).run [] _ _ G _ S (yes rfl e Z.new)) (fun f s6 r => ?_) (fun _ _ z => z.elim)
      have ok := Z.old.ok
      cases f with
      | ret y => exact let ⟨a1, a2, a3, I6, a4, a5⟩ := r; ⟨a1, a2, a3, I6.unsuite ok, a4, a5⟩
      | next => exact let ⟨a2, a3, I6, a5⟩ := r; ⟨a2, a3, I6.unsuite ok, a5⟩
      | brk => exact let ⟨a2, a3, I6, a5⟩ := r; ⟨a2, a3, I6.unsuite ok, a5⟩
      | cont => exact let ⟨a2, a3, I6, a5⟩ := r; ⟨a2, a3, I6.unsuite ok, a5⟩
  | @named x n i c ts b₁ bs p q hs ls nd at_ kd nm run rest ih =>
    rintro v Z ⟨b, hb, yes, no⟩
    refine wpAny_handleBy_cons (codeAny_handlers_test (Z.ask hf nm ((PySem.W.exm_one (M := model X.prog X.w) Z.inv.kIn Z.look hb).here ?_))) (by intro z; cases z)
    cases b with
    | false => exact ih v Z (no rfl)
    | true =>
      refine codeAny_handlers_suite_as (HandSPX.lands_againZ Z.fly fun h4 f4 k4 => ?_)
      have Z4 := Z.more f4 k4
      obtain ⟨oe, vs, hz, hd, he, S⟩ := Z4.inS hf
      have ok := Z.old.ok
      refine store_ok (X := X.suite e ((e, oe) :: (X.pn ++ pins))) (v := .ref e) S nd at_ (.inl kd) rfl (fun s5 S5 => ?_) (.inr kd)
      refine wpAny_mono ((run e oe cls d (X.pn ++ pins) hz ⟨_, hd⟩).run [] s5 _ G _ S5 (yes rfl e Z.new)) (fun f s6 r => ?_) (fun _ _ z => z.elim)
      have off : ∀ {σ6 : L2.St} {H6 : Hp} {R : Shared → Prop}, Inv (X.suite e ((e, oe) :: (X.pn ++ pins))) [] σ6 H6 s6 → (∀ s7, Inv X pins (σ6.set i none) H6 s7 → R s7) → wpAny (model X.prog X.w) X.A (do bindName X.env n .none; unbindBehindTheSuite X.env n q) (fun _ s7 => R s7) X.xe s6 :=
        fun {σ6 H6 R} I6 k => gone_ok (I6.unsuite ok) nd at_ kd k
      cases f with
      | ret y => exact let ⟨a1, a2, a3, I6, a4, a5⟩ := r; off I6 fun s7 J7 => ⟨a1, _, a3, J7, a4, a5⟩
      | next => exact let ⟨a2, a3, I6, a5⟩ := r; off I6 fun s7 J7 => ⟨_, a3, J7, a5⟩
      | brk => exact let ⟨a2, a3, I6, a5⟩ := r; off I6 fun s7 J7 => ⟨_, a3, J7, a5⟩
      | cont => exact let ⟨a2, a3, I6, a5⟩ := r; off I6 fun s7 J7 => ⟨_, a3, J7, a5⟩
variable {body : List Stmt} {h₁ : ExceptHandler} {hs : List ExceptHandler} {ls : List Cl1} {pos : Pos} {tb : WX → TS}
theorem ps_tryAll (hst : X.stack = X.env :: X.outer) (hf : X.env.frame = some X.env.locals) (tk : Takes X Wo) (hb : ∀ (W : WX) (pn : List (Addr × Obj)) (xe : Value → Shared → Prop), Takes (X.tr pn xe) W → PassesOwn (model X.prog X.w) X.A X.env xe → PSs (X.tr pn xe) body (tb W)) (C : Clauses X (h₁ :: hs) ls) :
    PS X (.Try body (h₁ :: hs) [] [] pos) (fun D σ H => tb (wClauses X.K Wo D ls) D σ H) := by
  refine ⟨fun pins s σ H D I h => ?_⟩
  have ok := I.ok
  have frm : X.A.frames = some (X.env :: X.outer) := ok.frames.trans (congrArg some hst)
  refine wpAny_Try_except (wpAny_mono ((hb (wClauses X.K Wo D ls) (X.pn ++ pins) (fun e s₁ => wpAny (model X.prog X.w) X.A (noteFrame e X.env) (fun _ s₂ => wpAny (model X.prog X.w) X.A (setFlight e none) (fun _ s₃ => wpAny (model X.prog X.w) X.A (handleBy e X.env (h₁ :: hs)) (SP X pins D) X.xe s₃) X.xe s₂) X.xe s₁)
    (fun z s' xx => ?_) PassesOwn.looking).run [] s σ H D (I.toTry _) h) (fun f s1 r => ?_) (fun e s1 he => he))
  · obtain ⟨e, B, u, pn', τ, G, cls, d, rfl, J, nb, up, sky, na, os, ag, w⟩ := xx
    show wpAny (model X.prog X.w) X.A (noteFrame (.ref e) X.env) _ _ _
    refine Sky.land Zc.steady frm hf (show Sky B (X.env :: X.outer) e (Zc cls d) X.env.locals s'.heap from by rw [← hst] <;> exact sky) fun h3 fl up3 => ?_
    exact clauses_run hst hf tk C _ ⟨J.ofTry ok, nb, up.trans up3, fl, na, os, ag⟩ w
  · cases f with
    | ret y => exact let ⟨a1, a2, a3, J, a4, a5⟩ := r; ⟨a1, a2, a3, J.ofTry ok, a4, a5⟩
    | next => exact let ⟨a2, a3, J, a5⟩ := r; wpAny_execs_nil ⟨a2, a3, J.ofTry ok, a5⟩
    | brk => exact let ⟨a2, a3, J, a5⟩ := r; ⟨a2, a3, J.ofTry ok, a5⟩
    | cont => exact let ⟨a2, a3, J, a5⟩ := r; ⟨a2, a3, J.ofTry ok, a5⟩
end
end Bz

namespace Bz
open PySem PySem.Spec PyProof.Rows L2
/-! ### sorted(xs), xs a list of texts of any length -/
def rSortedSB (K : PySem.W.Frag) : List V → Hp → VK → Prop := fun vs H Q => ∃ (a : Addr) (xs : List PySem.Str), vs = [V.ref a] ∧ SqL K H a (xs.map V.str) ∧
  ∀ (ys : List PySem.Str) (p : Addr), ys.Perm xs → (ys.Pairwise fun x y => ¬ y.cps.toList < x.cps.toList) → H p = none → Q (.ref p) (upd H p (.lst (ys.map V.str)))
theorem cr_sortedSB {X : Cx} : CallR X (.builtin "sorted") (rSortedSB X.K) := by
  intro pins s σ H vs us Q I r h
  obtain ⟨a, xs, rfl, hs, q⟩ := h
  obtain ⟨its, rv, hl, hz⟩ := I.list hs
  obtain ⟨u, rfl, ru⟩ := vals1 r
  obtain rfl : u = Value.ref a := ru
  have hS : StrsAre its xs := rv.strs
  refine SrtO.sorted_ord ltV_swo hl.isList (by rw [← rv.length]; exact hz) (fun h2 h₁ a' ha' kk => strs_sortable hS h2) fun out h1 h2 => ?_
  obtain ⟨q1, q2, q3⟩ := strs_out hS h1 h2
  obtain ⟨ep, he'⟩ := PyProof.Rows.sortedAll_at s.heap its out.toArray
  have hlen : ((out.map strOf).map V.str).length ≤ sizeLine := by
    rw [List.length_map, q2.length_eq, ← List.length_map (f := V.str)]
    exact hz
  exact ⟨.ref _, upd H (s.heap.objs.size + 1) (.lst ((out.map strOf).map V.str)), I.laid (t' := s.toks) (fun _ _ => PyProof.Rows.sortedAll_old) (Nat.le_succ _) ⟨hlen, out, ep, vals_of_strs q1, he'⟩, rfl, q _ _ q2 q3 (I.hok.fresh (Nat.le_succ _))⟩
theorem ksortedSB (K : PySem.W.Frag) {X : Cx} (h : X.K = K := by rfl) : CallR X (.builtin "sorted") (rSortedSB K) := by subst h; exact cr_sortedSB
/-! ### cls(e, ..) that may raise, C.m(e, ..) in a try -/
def tMakeVX (i : Nat) (C : Addr) (sp : Sp) (E : XK) (t : TA) : TE := fun σ H Q => σ[i]? = some (some (.ref C)) ∧ tMake C sp [] E t σ H Q
theorem pe_mkVX {X : Cx} {C : Addr} {k j i : Nat} {x : PySem.Str} {ps : List PySem.Str} {sp : Sp} {E : XK} {e : Expr} {es : List Expr} {p pos : Pos} {t : TA} (M : MakesX X.prog X.w X.K X.mg X.base C k ps sp) (hr : Room j X.A) (hx : Passes (L2.CX X.prog X.w) X E) (hN : X.N[i]? = some x) (hv : Vis X.env.scope x) (ha : PA X (e :: es) t) (hj : k + 1 ≤ j := by decide)
    (hd : (x == ("__debug__" : PySem.Str)) = false := by decide) (hcd : (x == ("__classdict__" : PySem.Str)) = false := by decide) (he : starEach (e :: es) X.env = (false, eval e X.env) :: starEach es X.env := by rfl) (hpl : (backTo pos (starEach es X.env)).any (·.1) = false := by rfl) :
    PE X (.Call (.Name x p) (e :: es) [] pos) (tMakeVX i C sp E t) := by
  obtain ⟨f, fd, M, F, hb⟩ := M.ex
  refine ⟨fun pins s σ H Q I h => ?_⟩
  obtain ⟨hs, h⟩ := h
  refine wpAny_Call_Name_kw (thn ((pe_var (pos := p) (i := i) hN hv hd hcd).run pins s σ H (fun v H1 => v = .ref C ∧ H1 = H) I ⟨.ref C, hs, rfl, rfl⟩) fun u s1 ⟨v, H1, I1, r1, q1⟩ => ?_)
  obtain ⟨ev, eH⟩ := q1
  subst ev
  rw [eH] at I1
  obtain rfl : u = Value.ref C := r1
  refine PySem.W.callWith_K (h₀ := X.base) I1.ok.mod.kin M.kp (thn (ha.run pos pins s1 σ H _ I1 h) fun us s2 ⟨vs, H2, I2, r, q⟩ => ⟨I2.kIn, ?_⟩) he hpl
  exact run_make M F (hr.mono hj) hb .nil hx I2 r q
structure KeepsCX (P : Program) (w : World) (K : PySem.W.Frag) (mg : PySem.Str → Option Value) (base : Heap) (C : Addr) (k : Nat) (m : PySem.Str) (sp : Sp) : Prop where
  ex : ∃ p g, ClX.CRead K C (.type "type") ∧ ClX.CMet K C (.type "type") m p g ∧ FnR P w K mg base (L2.CX P w) k g sp
theorem keepsCX {P : Program} {w : World} {K : PySem.W.Frag} {mg : PySem.Str → Option Value} {base : Heap} {C : Addr} {k : Nat} {m qual : PySem.Str} {sp : Sp} {st : Stmt} {N ps : List PySem.Str} (D : CmAt K C m qual st ps) (S : FnScope N ps (defScope st)) (len : ∀ vs H Q E, sp vs H Q E → vs.length = ps.length)
    (hbody : ∀ (f : Addr) (cdv : Value) (A : Around) (outer : List Env) (s : Shared) (H : Hp) (vs : List V) (Q : VK) (E : XK), Room k (A.deeper (envOfC qual (defScope st) s.heap.objs.size f cdv)) → sp vs H Q E →
      ∃ t, PSs (cxOf (L2.CX P w) P w K mg base N qual (defScope st) f cdv A outer s H E) (defBody st) t ∧ t { nx := fun _ H' => Q .non H', rt := Q } (start N vs) H) : KeepsCX P w K mg base C (k + 1) m sp := by
  obtain ⟨p, g, fd, r, c, F, b⟩ := D.ex
  refine ⟨p, g, r, c, ?_⟩
  have z := (F.okX S len (hbody g)).raw b .nil
  exact z.imp fun vs H Q E h => by rw [List.append_nil]; exact h
def tCMethT (C : Addr) (sp : Sp) (E : L2.St → XK) (ta : TE) (t : TA) : TE := fun σ H Q => ta σ H fun x H1 => x = .ref C ∧ t σ H1 fun vs H2 => sp (.ref C :: vs) H2 Q (E σ)
theorem pe_cmT {X : Cx} {C : Addr} {k j : Nat} {m : PySem.Str} {sp : Sp} {W : WX} {o e : Expr} {es : List Expr} {pos apos : Pos} {ta : TE} {t : TA} {pl : Sem Bool} (M : KeepsCX X.prog X.w X.K X.mg X.base C k m sp) (hr : Room j X.A) (tk : Takes X W) (ho : PE X o ta) (ha : PA X (e :: es) t) (hj : k ≤ j := by decide)
    (hst : starEach (e :: es) X.env = (false, eval e X.env) :: starEach es X.env := by rfl) (hpl : (backTo pos (starEach es X.env)).any (·.1) = false := by rfl)
    (ht : eval (.Call (.Attribute o m apos) (e :: es) [] pos) X.env = (do
      let ov ← eval o X.env
      standAt apos.atName
      let (f, first) ← holding [ov] (getMethod ov m pl)
      callWith pos f first (backTo pos (starEach (e :: es) X.env)) (backToKw pos (keywordEach [] X.env))) := by rfl) :
    PE X (.Call (.Attribute o m apos) (e :: es) [] pos) (tCMethT C sp (WE W) ta t) := by
  obtain ⟨p, g, r, c, F⟩ := M.ex
  refine ⟨fun pins s σ H Q I h => ?_⟩
  refine PySem.W.methodCall_KW (pl := pl) (thn (ho.run pins s σ H _ I h) fun u s1 ⟨x, H1, I1, rx, ex, q⟩ => ?_) ht
  subst ex
  obtain rfl : u = Value.ref C := rx
  refine ClX.getmethcm_ok I1 r c fun s2 I2 => ?_
  refine ClX.callwith_cm I2 (ClX.base_none I1 (Nat.le_refl _)) c.fi (thn (ha.run pos _ s2 σ H1 _ I2 q) fun us s3 ⟨vs, H2, I3, rv, q2⟩ => ⟨⟨ClX.pin_at I3, I3.kIn⟩, ?_⟩) hst hpl
  have r2 : Vals (.ref C :: vs) (.ref C :: us) := .cons rfl rv
  have z : wpAny (model X.prog X.w) X.A (call (.ref s1.heap.objs.size) us) (EP X ((s1.heap.objs.size, PySem.W.methodObj (.ref g) (.ref C)) :: pins) σ Q) X.xe s3 := by
    refine wpAny_call (PySem.W.method_call (ClX.pin_at I3) (codeAny_mono (F.mono hj _ X.stack s3 H2 (.ref C :: us) (.ref C :: vs) Q (WE W σ) hr I3.env0 r2 q2) fun r s' hq => ?_))
    cases r with
    | error e => exact passAt tk σ _ _ _ e s' I3 hq
    | ok fl =>
      cases fl with
      | ret u => exact I3.after hq
      | next => exact False.elim hq
      | brk => exact False.elim hq
      | cont => exact False.elim hq
  exact thn z fun _ _ y => ClX.unpinE y
/-! ### lines read -/
def Asci (s : PySem.Str) : Prop := ∀ c ∈ TL.tl s, c < 128
def RdN (word l : PySem.Str) (ns : List PySem.Str) : Prop := Txt.split l " " = word :: ns ∧ (∀ s ∈ ns, Nm s) ∧ Asc ns
def RdA (l : PySem.Str) (x : Arw) : Prop := Txt.split l " " = arP x ∧ x.Ok
theorem RdN.uniq {w l : PySem.Str} {a b : List PySem.Str} (h : RdN w l a) (k : RdN w l b) : a = b := (List.cons.inj (h.1.symm.trans k.1)).2
theorem costS_inj {c d : Int} (h0 : 0 ≤ c) (h1 : c ≤ 99) (k0 : 0 ≤ d) (k1 : d ≤ 99) (e : costS c = costS d) : c = d := by
  have a := (cost_ok h0 h1).i
  rw [e, (cost_ok k0 k1).i] at a
  exact (Option.some.inj a).symm
theorem RdA.uniq {l : PySem.Str} {x y : Arw} (h : RdA l x) (k : RdA l y) : x = y := by
  have e := h.1.symm.trans k.1
  unfold arP at e
  obtain ⟨s, l1, t, c⟩ := x
  obtain ⟨s', l1', t', c'⟩ := y
  simp only [List.cons.injEq, and_true] at e
  obtain ⟨e1, e2, e3, e4⟩ := e
  have e5 := costS_inj h.2.c0 h.2.c1 k.2.c0 k.2.c1 e4
  simp only at e5
  rw [e1, e2, e3, e5]
theorem geS_eq (x y : Arw) : geS [x.s, x.l, x.t] [y.s, y.l, y.t] = !lexK x.k3 y.k3 := by
  unfold Arw.k3 geS
  simp only [List.length_cons, List.length_nil, Nat.zero_add, Nat.reduceAdd, Nat.min_self, Ob.lexAt, List.getD_cons_zero, List.getD_cons_succ, lexK]
  have lt : ∀ a b : PySem.Str, ltK (.inr a) (.inr b) = decide (a.cps.toList < b.cps.toList) := fun a b => rfl
  by_cases e1 : x.s = y.s
  · rw [e1]
    by_cases e2 : x.l = y.l
    · rw [e2]
      by_cases e3 : x.t = y.t
      · rw [e3]
        simp
      · simp [e3, lt]
    · simp [e2, lt]
  · simp [e1, lt]
/-- the lines of arrows read -/
structure GoodA (ls : List PySem.Str) (xs : List Arw) : Prop where
  rd : Paired RdA ls xs
  le : xs.length ≤ 400
  up : xs.Pairwise fun x y => lexK x.k3 y.k3 = true
theorem GoodA.nil : GoodA [] [] := ⟨.nil, Nat.zero_le _, .nil⟩
theorem paired_takeA {α β : Type} {F : α → β → Prop} : ∀ {xs : List α} {ys : List β} (n : Nat), Paired F xs ys → Paired F (xs.take n) (ys.take n)
  | _, _, 0, _ => .nil
  | _, _, _ + 1, .nil => .nil
  | _, _, n + 1, .cons a r => .cons a (paired_takeA n r)
theorem GoodA.take {ls : List PySem.Str} {xs : List Arw} (h : GoodA ls xs) (n : Nat) : GoodA (ls.take n) (xs.take n) :=
  ⟨paired_takeA n h.rd, by have := h.le; rw [List.length_take]; omega, h.up.sublist (List.take_sublist n xs)⟩
theorem GoodA.uniq : ∀ {ls : List PySem.Str} {xs ys : List Arw}, Paired RdA ls xs → Paired RdA ls ys → xs = ys
  | _, _, _, .nil, .nil => rfl
  | _, _, _, .cons a r, .cons b q => by rw [a.uniq b, GoodA.uniq r q]
theorem paired_snocI {α β : Type} {F : α → β → Prop} : ∀ {xs : List α} {x : α} {ys : List β}, Paired F (xs ++ [x]) ys → ∃ zs z, ys = zs ++ [z] ∧ Paired F xs zs ∧ F x z
  | [], x, _, .cons a .nil => ⟨[], _, rfl, .nil, a⟩
  | w :: xs, x, _, .cons a r => by
    obtain ⟨zs, z, rfl, p, q⟩ := paired_snocI (xs := xs) r
    exact ⟨_ :: zs, z, rfl, .cons a p, q⟩
theorem goodA_snoc {ls : List PySem.Str} {l : PySem.Str} {xs : List Arw} {x : Arw} (h : GoodA ls xs) (hx : RdA l x) (hl : xs.length < 400) (hu : ∀ y, xs.getLast? = some y → lexK y.k3 x.k3 = true) : GoodA (ls ++ [l]) (xs ++ [x]) := by
  refine ⟨paired_snoc h.rd hx, by rw [List.length_append, List.length_singleton]; omega, List.pairwise_append.mpr ⟨h.up, List.pairwise_singleton .., fun y hy z hz => ?_⟩⟩
  rw [List.mem_singleton.mp hz]
  rcases List.eq_nil_or_concat xs with e | ⟨r, v, e⟩
  · rw [e] at hy; cases hy
  · rw [List.concat_eq_append] at e
    have q := hu v (by rw [e]; simp)
    rw [e] at hy
    rcases List.mem_append.mp hy with hy | hy
    · have u := h.up
      rw [e] at u
      exact lexK_trans ((List.pairwise_append.mp u).2.2 y hy v (List.mem_singleton.mpr rfl)) q
    · rw [List.mem_singleton.mp hy]
      exact q
/-- why a next line does not fit -/
theorem goodA_not {ls : List PySem.Str} {l : PySem.Str} {xs : List Arw} (h : GoodA ls xs) (hb : (∀ x, ¬ RdA l x) ∨ 400 ≤ xs.length ∨ ∃ x y, RdA l x ∧ xs.getLast? = some y ∧ lexK y.k3 x.k3 = false) : ∀ ys, ¬ GoodA (ls ++ [l]) ys := by
  intro ys k
  obtain ⟨zs, z, rfl, p, q⟩ := paired_snocI k.rd
  obtain rfl := GoodA.uniq p h.rd
  rcases hb with hb | hb | ⟨x, y, hx, hy, hf⟩
  · exact hb z q
  · have := k.le
    rw [List.length_append, List.length_singleton] at this
    omega
  · obtain rfl := hx.uniq q
    have u := (List.pairwise_append.mp k.up).2.2 y (List.mem_of_getLast? hy) x (List.mem_singleton.mpr rfl)
    rw [hf] at u
    cases u
def Good (ls : List PySem.Str) : Prop := (∀ l, ls[0]? = some l → ∃ ss, RdN "start" l ss) ∧ (∀ l, ls[1]? = some l → ∃ es, RdN "end" l es) ∧ ∃ xs, GoodA (ls.drop 2) xs
theorem Good.take {ls : List PySem.Str} (h : Good ls) (n : Nat) : Good (ls.take n) := by
  obtain ⟨h0, h1, xs, h2⟩ := h
  have g : ∀ (i : Nat) (l : PySem.Str), (ls.take n)[i]? = some l → ls[i]? = some l := fun i l e => by
    rw [List.getElem?_take] at e
    split at e
    · exact e
    · cases e
  refine ⟨fun l e => h0 l (g 0 l e), fun l e => h1 l (g 1 l e), xs.take (n - 2), ?_⟩
  rw [List.drop_take]
  exact h2.take _
def StaOf (xs : List Arw) (ss es os : List PySem.Str) : Prop := Asc os ∧ ∀ k, k ∈ os ↔ (k ∈ ss ∨ k ∈ es ∨ ∃ x ∈ xs, k = x.s ∨ k = x.t)
theorem StaOf.uniq {xs : List Arw} {ss es os qs : List PySem.Str} (h : StaOf xs ss es os) (k : StaOf xs ss es qs) : os = qs := asc_uniq h.1 k.1 fun z => (h.2 z).trans (k.2 z).symm
def toldD (xs : List Arw) (ss es : List PySem.Str) : PyData := .tuple [.str "told", .tuple (xs.map dAr), .tuple (ss.map .str), .tuple (es.map .str)]
def lineD (n : Nat) : PyData := .tuple [.str "line", .int (n : Nat)]
def manyD (n : Nat) : PyData := .tuple [.str "many", .int (n : Nat)]
inductive Due : List PySem.Str → PyData → Prop
  | line {ls : List PySem.Str} {i : Nat} (lt : i < ls.length) (g : Good (ls.take i)) (b : ¬ Good (ls.take (i + 1))) : Due ls (lineD (i + 1))
  | one {ls : List PySem.Str} (l1 : ls.length = 1) (g : Good ls) : Due ls (lineD 2)
  | many {l0 l1 : PySem.Str} {r ss es os : List PySem.Str} {xs : List Arw} (h0 : RdN "start" l0 ss) (h1 : RdN "end" l1 es) (h2 : GoodA r xs) (h3 : StaOf xs ss es os) (h4 : 40 < os.length) : Due (l0 :: l1 :: r) (manyD os.length)
  | told {l0 l1 : PySem.Str} {r ss es os : List PySem.Str} {xs : List Arw} (h0 : RdN "start" l0 ss) (h1 : RdN "end" l1 es) (h2 : GoodA r xs) (h3 : StaOf xs ss es os) (h4 : os.length ≤ 40) : Due (l0 :: l1 :: r) (toldD xs ss es)
theorem good_ofA {l0 l1 : PySem.Str} {r ss es : List PySem.Str} {xs : List Arw} (h0 : RdN "start" l0 ss) (h1 : RdN "end" l1 es) (h2 : GoodA r xs) : Good (l0 :: l1 :: r) :=
  ⟨fun l e => ⟨ss, by rw [← Option.some.inj e]; exact h0⟩, fun l e => ⟨es, by rw [← Option.some.inj e]; exact h1⟩, xs, h2⟩
theorem good_all {ls : List PySem.Str} {i : Nat} (h : Good ls) (b : ¬ Good (ls.take (i + 1))) : False := b (h.take _)
theorem Due.uniq {ls : List PySem.Str} {d d' : PyData} (h : Due ls d) (k : Due ls d') : d = d' := by
  have key : ∀ {i j : Nat}, Good (ls.take i) → ¬ Good (ls.take (j + 1)) → i ≤ j := fun {i j} g b => by
    refine Nat.le_of_not_lt fun lt => b ?_
    have q := g.take (j + 1)
    rw [List.take_take, Nat.min_eq_left (by omega)] at q
    exact q
  cases h with
  | line lt g b =>
    cases k with
    | line lt' g' b' =>
      have e := Nat.le_antisymm (key g b') (key g' b)
      rw [e]
    | one l1 g' => exact (good_all g' b).elim
    | many h0 h1 h2 h3 h4 => exact (good_all (good_ofA h0 h1 h2) b).elim
    | told h0 h1 h2 h3 h4 => exact (good_all (good_ofA h0 h1 h2) b).elim
  | one l1 g =>
    cases k with
    | line lt' g' b' => exact (good_all g b').elim
    | one l1 g' => rfl
    | many h0 h1 h2 h3 h4 => simp at l1
    | told h0 h1 h2 h3 h4 => simp at l1
  | many h0 h1 h2 h3 h4 =>
    cases k with
    | line lt' g' b' => exact (good_all (good_ofA h0 h1 h2) b').elim
    | one l1 g' => simp at l1
    | many k0 k1 k2 k3 k4 =>
      obtain rfl := h0.uniq k0
      obtain rfl := h1.uniq k1
      obtain rfl := GoodA.uniq h2.rd k2.rd
      rw [h3.uniq k3]
    | told k0 k1 k2 k3 k4 =>
      obtain rfl := h0.uniq k0
      obtain rfl := h1.uniq k1
      obtain rfl := GoodA.uniq h2.rd k2.rd
      rw [h3.uniq k3] at h4
      omega
  | told h0 h1 h2 h3 h4 =>
    cases k with
    | line lt' g' b' => exact (good_all (good_ofA h0 h1 h2) b').elim
    | one l1 g' => simp at l1
    | many k0 k1 k2 k3 k4 =>
      obtain rfl := h0.uniq k0
      obtain rfl := h1.uniq k1
      obtain rfl := GoodA.uniq h2.rd k2.rd
      rw [h3.uniq k3] at h4
      omega
    | told k0 k1 k2 k3 k4 =>
      obtain rfl := h0.uniq k0
      obtain rfl := h1.uniq k1
      obtain rfl := GoodA.uniq h2.rd k2.rd
      rfl
end Bz

namespace Bz
open PySem PySem.Spec PyProof.Rows L2
/-! ### numbers as texts -/
theorem dig_tab : ∀ c : Fin 128, Unicode.isDigit c.val = (decide (48 ≤ c.val) && decide (c.val ≤ 57)) := by decide +kernel
theorem num1_tab : ∀ a : Fin 10, ∃ n : Fin 100, PySem.intText? (⟨#[48 + a.val]⟩ : PySem.Str) = some ((n.val : Nat) : Int) := by decide +kernel
theorem num2_tab : ∀ a b : Fin 10, ∃ n : Fin 100, PySem.intText? (⟨#[48 + a.val, 48 + b.val]⟩ : PySem.Str) = some ((n.val : Nat) : Int) := by decide +kernel
theorem num_of {w : PySem.Str} (h1 : w.length ≤ 2) (h2 : Txt.isascii w = true) (h3 : Txt.isdigit w = true) : ∃ n : Int, 0 ≤ n ∧ n ≤ 99 ∧ PySem.intText? w = some n := by
  unfold Txt.isdigit at h3
  unfold Txt.isascii at h2
  simp only [Bool.and_eq_true, decide_eq_true_eq] at h3
  obtain ⟨l0, h3⟩ := h3
  rw [all_tl] at h2 h3
  rw [len_tl] at h1 l0
  have dg : ∀ c ∈ TL.tl w, ∃ a : Fin 10, c = 48 + a.val := fun c hc => by
    have a := of_decide_eq_true (List.all_eq_true.mp h2 c hc)
    have b := List.all_eq_true.mp h3 c hc
    rw [dig_tab ⟨c, a⟩] at b
    simp only [Bool.and_eq_true, decide_eq_true_eq] at b
    exact ⟨⟨c - 48, by omega⟩, by simp only; omega⟩
  have fin : ∀ v : PySem.Str, TL.tl v = TL.tl w → (∃ n : Fin 100, PySem.intText? v = some ((n.val : Nat) : Int)) → ∃ n : Int, 0 ≤ n ∧ n ≤ 99 ∧ PySem.intText? w = some n := fun v e ⟨n, h⟩ => by
    rw [← ext_tl e]
    exact ⟨_, by omega, by have := n.isLt; omega, h⟩
  match e : TL.tl w, h1, l0 with
  | [c], _, _ =>
    obtain ⟨a, rfl⟩ := dg c (by rw [e]; simp)
    exact fin ⟨#[48 + a.val]⟩ e.symm (num1_tab a)
  | [c, d], _, _ =>
    obtain ⟨a, rfl⟩ := dg c (by rw [e]; simp)
    obtain ⟨b, rfl⟩ := dg d (by rw [e]; simp)
    exact fin ⟨#[48 + a.val, 48 + b.val]⟩ e.symm (num2_tab a b)
def NumW (w : PySem.Str) : Prop := ∃ c : Int, 0 ≤ c ∧ c ≤ 99 ∧ w = costS c
/-! ### runs without a line's end -/
def RunB (l : List Nat) (m : Nat) : Prop := ∀ x, x <:+: l → (10 : Nat) ∉ x → x.length ≤ m
theorem RunB.mono {l : List Nat} {m n : Nat} (h : RunB l m) (k : m ≤ n) : RunB l n := fun x a b => Nat.le_trans (h x a b) k
theorem RunB.sub {l k : List Nat} {m : Nat} (h : RunB l m) (s : k <:+: l) : RunB k m := fun x a b => h x (a.trans s) b
theorem RunB.short {l : List Nat} : RunB l l.length := fun x a _ => a.length_le
theorem infix_app {α : Type} {x a b : List α} (h : x <:+: a ++ b) : x <:+: a ∨ x <:+: b ∨ ∃ p q, x = p ++ q ∧ p <:+: a ∧ q <:+: b := by
  obtain ⟨s, t, e⟩ := h
  rw [List.append_assoc] at e
  rcases List.append_eq_append_iff.mp e with ⟨u, e1, e2⟩ | ⟨u, e1, e2⟩
  · -- s is ahead of a's end: a = s ++ u, x ++ t = u ++ b
    rcases List.append_eq_append_iff.mp e2 with ⟨v, e3, e4⟩ | ⟨v, e3, e4⟩
    · -- u = x ++ v
      exact .inl ⟨s, v, by rw [e1, e3, List.append_assoc]⟩
    · -- x = u ++ v, b = v ++ t
      exact .inr (.inr ⟨u, v, e3, ⟨s, [], by rw [e1, List.append_nil]⟩, ⟨[], t, by rw [e4, List.nil_append]⟩⟩)
  · -- s = a ++ u, b = u ++ (x ++ t)
    exact .inr (.inl ⟨u, t, by rw [e2, List.append_assoc]⟩)
theorem RunB.app {a b : List Nat} {m n : Nat} (h : RunB a m) (k : RunB b n) : RunB (a ++ b) (m + n) := by
  intro x hx h10
  rcases infix_app hx with q | q | ⟨p, q, rfl, hp, hq⟩
  · exact Nat.le_trans (h x q h10) (Nat.le_add_right ..)
  · exact Nat.le_trans (k x q h10) (Nat.le_add_left ..)
  · rw [List.length_append]
    exact Nat.add_le_add (h p hp fun z => h10 (List.mem_append_left _ z)) (k q hq fun z => h10 (List.mem_append_right _ z))
theorem RunB.join : ∀ {ps : List (List Nat)} {m : Nat}, (∀ p ∈ ps, p.length ≤ m) → RunB (TL.joinL [10] ps) m
  | [], m, _ => fun x a _ => by
    have : x.length ≤ 0 := a.length_le
    omega
  | [p], m, h => fun x a _ => Nat.le_trans a.length_le (h p (List.mem_singleton.mpr rfl))
  | p :: q :: r, m, h => by
    have ih := RunB.join (ps := q :: r) fun z hz => h z (List.mem_cons_of_mem _ hz)
    intro x hx h10
    have hx' : x <:+: p ++ ([10] ++ TL.joinL [10] (q :: r)) := hx
    have pl := h p (List.mem_cons_self ..)
    have one : ∀ y, y <:+: [10] ++ TL.joinL [10] (q :: r) → (10 : Nat) ∉ y → y <:+: TL.joinL [10] (q :: r) := by
      intro y hy h
      rcases infix_app hy with z | z | ⟨u, v, rfl, hu, hv⟩
      · have : y = [] := by
          cases y with
          | nil => rfl
          | cons c y =>
            have := z.subset (List.mem_cons_self ..)
            rw [List.mem_singleton.mp this] at h
            exact absurd (List.mem_cons_self ..) h
        rw [this]
        exact List.nil_infix
      · exact z
      · have : u = [] := by
          cases u with
          | nil => rfl
          | cons c u =>
            have := hu.subset (List.mem_cons_self ..)
            rw [List.mem_singleton.mp this] at h
            exact absurd (List.mem_cons_self ..) h
        rw [this, List.nil_append]
        exact hv
    -- where x crosses, it holds 10 or stands on one side
    obtain ⟨s, t, e⟩ := hx'
    rw [List.append_assoc] at e
    rcases List.append_eq_append_iff.mp e with ⟨u, e1, e2⟩ | ⟨u, e1, e2⟩
    · rcases List.append_eq_append_iff.mp e2 with ⟨v, e3, e4⟩ | ⟨v, e3, e4⟩
      · have : x.length ≤ p.length := by rw [e1, e3]; simp; omega
        omega
      · cases v with
        | nil =>
          rw [List.append_nil] at e3
          have : x.length ≤ p.length := by rw [e1, e3]; simp
          omega
        | cons c v =>
          have e5 : [10] ++ TL.joinL [10] (q :: r) = c :: (v ++ t) := e4
          have : c = 10 := by
            have := (List.cons.inj e5).1
            exact this.symm
          rw [e3, this] at h10
          exact absurd (List.mem_append_right _ (List.mem_cons_self ..)) h10
    · exact ih x (one x ⟨u, t, by rw [List.append_assoc]; exact e2.symm⟩ h10) h10
/-- a text with bounds: of all of it, of its lines; its signs plain -/
structure TxB (z : PySem.Str) (n m : Nat) : Prop where
  len : z.length ≤ n
  run : RunB (TL.tl z) m
  asc : Asci z
theorem TxB.mono {z : PySem.Str} {n m n' m' : Nat} (h : TxB z n m) (a : n ≤ n') (b : m ≤ m') : TxB z n' m' := ⟨Nat.le_trans h.len a, h.run.mono b, h.asc⟩
theorem split_lines (z : PySem.Str) : TL.joinL [10] ((Txt.split z "\n").map TL.tl) = TL.tl z := by
  have e := congrArg TL.tl (StrLaws.join_split z "\n")
  rw [TL.tl_join, tl_nl] at e
  exact e
theorem join_part : ∀ {ps : List (List Nat)} {p : List Nat}, p ∈ ps → p <:+: TL.joinL [10] ps
  | [q], p, h => by rw [List.mem_singleton.mp h]; exact List.infix_refl _
  | q :: r :: ps, p, h => by
    show p <:+: q ++ ([10] ++ TL.joinL [10] (r :: ps))
    rcases List.mem_cons.mp h with rfl | h
    · exact ⟨[], _, rfl⟩
    · obtain ⟨s, t, e⟩ := join_part h
      exact ⟨q ++ ([10] ++ s), t, by rw [← e]; simp⟩
theorem spl_free {s : Nat} : ∀ (k : Nat) (acc l : List Nat), s ∉ acc → ∀ p ∈ TL.spl [s] k acc l, s ∉ p
  | _, acc, [], h, p, hp => by
    rw [TL.spl_nil] at hp
    rw [List.mem_singleton.mp hp]
    exact h
  | 0, acc, c :: r, h, p, hp => by
    by_cases e : c = s
    · rw [TL.spl_hit (by rw [e]; exact TL.pre_self [s] r)] at hp
      rcases List.mem_cons.mp hp with rfl | hp
      · exact h
      · exact spl_free 0 [] r (by simp) p hp
    · rw [TL.spl_miss (TL.pre_of_head [] r e)] at hp
      exact spl_free 0 (acc ++ [c]) r (by simp [h, Ne.symm e]) p hp
  | k + 1, acc, c :: r, h, p, hp => spl_free k acc r h p hp
theorem split_free (z : PySem.Str) : ∀ l ∈ Txt.split z "\n", (10 : Nat) ∉ TL.tl l := by
  intro l hl
  have e := TL.split_spl z "\n" (by rw [tl_nl]; simp) (TL.kind_ok cps_nl)
  rw [tl_nl] at e
  have : TL.tl l ∈ (Txt.split z "\n").map TL.tl := List.mem_map.mpr ⟨l, hl, rfl⟩
  rw [e] at this
  exact spl_free 0 [] _ (by simp) _ this
def LineOk (m : Nat) (l : PySem.Str) : Prop := l.length ≤ m ∧ Asci l ∧ (10 : Nat) ∉ TL.tl l
theorem TxB.lines {z : PySem.Str} {n m : Nat} (h : TxB z n m) : ∀ l ∈ Txt.split z "\n", LineOk m l := by
  intro l hl
  have inf : TL.tl l <:+: TL.tl z := by
    rw [← split_lines z]
    exact join_part (List.mem_map.mpr ⟨l, hl, rfl⟩)
  refine ⟨?_, fun c hc => h.asc c (inf.subset hc), split_free z l hl⟩
  rw [len_tl]
  exact h.run _ inf (split_free z l hl)
theorem split_cnt (z y : PySem.Str) (hy : 1 ≤ y.length) : (Txt.split z y).length ≤ z.length + 1 := by
  have := split_weight z y hy
  omega
theorem le_sumN : ∀ {ns : List Nat} {n : Nat}, n ∈ ns → n ≤ ns.sum
  | m :: ns, n, h => by
    rw [List.sum_cons]
    rcases List.mem_cons.mp h with rfl | h
    · exact Nat.le_add_right ..
    · exact Nat.le_trans (le_sumN h) (Nat.le_add_left ..)
theorem split_part (z y : PySem.Str) (hy : 1 ≤ y.length) {p : PySem.Str} (hp : p ∈ Txt.split z y) : p.length ≤ z.length := by
  have h1 := split_weight z y hy
  have h2 : p.length ≤ ((Txt.split z y).map (·.length)).sum := le_sumN (List.mem_map.mpr ⟨p, hp, rfl⟩)
  have h3 : 1 ≤ (Txt.split z y).length := List.length_pos_of_mem hp
  omega
theorem split_sub (z y : PySem.Str) {p : PySem.Str} (hp : p ∈ Txt.split z y) : ∀ c ∈ TL.tl p, c ∈ TL.tl z := by
  have e := congrArg TL.tl (StrLaws.join_split z y)
  rw [TL.tl_join] at e
  have key : ∀ {ps : List (List Nat)} {p : List Nat}, p ∈ ps → ∀ c ∈ p, c ∈ TL.joinL (TL.tl y) ps := by
    intro ps
    induction ps with
    | nil => intro p h; cases h
    | cons q ps ih =>
      intro p h c hc
      cases ps with
      | nil => rw [List.mem_singleton.mp h] at hc; exact hc
      | cons r ps =>
        show c ∈ q ++ (TL.tl y ++ TL.joinL (TL.tl y) (r :: ps))
        rcases List.mem_cons.mp h with rfl | h
        · exact List.mem_append_left _ hc
        · exact List.mem_append_right _ (List.mem_append_right _ (ih h c hc))
  intro c hc
  rw [← e]
  exact key (List.mem_map.mpr ⟨p, hp, rfl⟩) c hc
/-! ### promises -/
/-- str(int(w)) == w and so on -/
def spIsNumX : Sp := fun vs H Q _ => ∃ w : PySem.Str, vs = [.str w] ∧ w.length ≤ 100000 ∧ (NumW w → Q (.bl true) H) ∧ (¬ NumW w → Q (.bl false) H)
def arTB (ss : List PySem.Str) (n : Int) : Bool := match ss with
  | [a, b, c] => nmB a && (ltB b && (nmB c && prB n))
  | _ => false
def spIsArrowT (K : PySem.W.Frag) : Sp := fun vs H Q _ => ∃ (q : Addr) (ss : List PySem.Str) (n : Int), vs = [.ref q] ∧ H q = some (.tup (ss.map V.str ++ [.int n])) ∧ (∀ s ∈ ss, s.length ≤ 100000) ∧ ss.length ≤ 1000 ∧ ∀ H', Same H H' → Q (.bl (arTB ss n)) H'
def spReadArrowX : Sp := fun vs H Q _ => ∃ l : PySem.Str, vs = [.str l] ∧ l.length ≤ 400 ∧ (∀ x, RdA l x → ∀ (q : Addr) (H' : Hp), H q = none → H' q = some (.tup x.vals) → Same H H' → Q (.ref q) H') ∧ ((∀ x, ¬ RdA l x) → ∀ H', Same H H' → Q .non H')
def xdLine (n : Nat) : HO := .xd [(("line" : PySem.Str), V.int (n : Nat))]
def spReadNamesX (K : PySem.W.Frag) (C : Addr) : Sp := fun vs H Q E => ∃ (a : Addr) (ls : List PySem.Str) (word : PySem.Str) (n : Nat), vs = [.ref a, .int (n + 1 : Nat), .str word] ∧ SqL K H a (ls.map V.str) ∧ ls.length ≤ 100000 ∧ (∀ l ∈ ls, LineOk 400 l) ∧ n ≤ 5 ∧
  (∀ l ns, ls[n]? = some l → RdN word l ns → ∀ (q : Addr) (H' : Hp), H q = none → H' q = some (.lst (ns.map V.str)) → Same H H' → Q (.ref q) H') ∧
  ((¬ ∃ l ns, ls[n]? = some l ∧ RdN word l ns) → ∀ H' d, Same H H' → H' d = none → E (.ref C) (some d) (upd H' d (xdLine (n + 1))))
def spReadArrowsX (K : PySem.W.Frag) (C : Addr) : Sp := fun vs H Q E => ∃ (a : Addr) (ls : List PySem.Str), vs = [.ref a] ∧ SqL K H a (ls.map V.str) ∧ ls.length ≤ 100000 ∧ (∀ l ∈ ls, LineOk 400 l) ∧
  (∀ xs, GoodA (ls.drop 2) xs → ∀ (q : Addr) (ws : List V) (H' : Hp), H q = none → H' q = some (.lst ws) → ArS H' ws xs → Same H H' → Q (.ref q) H') ∧
  (∀ i, i < (ls.drop 2).length → (∃ xs, GoodA ((ls.drop 2).take i) xs) → (∀ xs, ¬ GoodA ((ls.drop 2).take (i + 1)) xs) → ∀ H' d, Same H H' → H' d = none → E (.ref C) (some d) (upd H' d (xdLine (i + 3))))
def spInitT (K : PySem.W.Frag) (C CT : Addr) : Sp := fun vs H Q E => ∃ (m a b e dx : Addr) (us : List V) (xs : List Arw) (ss es : List PySem.Str), vs = [.ref m, .ref a, .ref b, .ref e] ∧ H m = some (.ins C dx []) ∧ SqE K H a us ∧ ArE H us xs ∧ (∀ x ∈ xs, x.Ok) ∧ xs.length ≤ 400 ∧
  SqE K H b (ss.map V.str) ∧ SqE K H e (es.map V.str) ∧ (∀ s ∈ ss, Nm s) ∧ (∀ s ∈ es, Nm s) ∧ ss.length ≤ 1000 ∧ es.length ≤ 1000 ∧
  (∀ (M : MachV) (H' : Hp), IsMach C H' m M → MOf M xs ss es → M.sta.length ≤ 40 → (∀ q o, q ≠ m → H q = some o → H' q = some o) → Q .non H') ∧
  (∀ (os : List PySem.Str) (ys : List Arw) (H' : Hp) (d : Addr), CheapOf xs ys → StaOf ys ss es os → 40 < os.length → Same H H' → H' d = none → E (.ref CT) (some d) (upd H' d (.xd [(("count" : PySem.Str), V.int (os.length : Nat))])))
def spParseX (K : PySem.W.Frag) (C CB CT : Addr) : Sp := fun vs H Q E => ∃ (z : PySem.Str), vs = [.ref C, .str z] ∧ TxB z 50000 400 ∧
  (∀ l0 l1 r ss es xs, Txt.split z "\n" = l0 :: l1 :: r → RdN "start" l0 ss → RdN "end" l1 es → GoodA r xs → ∀ (m : Addr) (M : MachV) (H' : Hp), H m = none → IsMach C H' m M → MOf M xs ss es → M.sta.length ≤ 40 → Same H H' → Q (.ref m) H') ∧
  (∀ n, Due (Txt.split z "\n") (lineD n) → ∀ H' d, Same H H' → H' d = none → E (.ref CB) (some d) (upd H' d (xdLine n))) ∧
  (∀ n, Due (Txt.split z "\n") (manyD n) → ∀ H' d, Same H H' → H' d = none → E (.ref CT) (some d) (upd H' d (.xd [(("count" : PySem.Str), V.int (n : Nat))])))
/-- what is told of a text, by the program or by the law -/
def spDueT (K : PySem.W.Frag) : Sp := fun vs H Q _ => ∃ z : PySem.Str, vs = [.str z] ∧ TxB z 50000 400 ∧ ∀ (q : Addr) (d : PyData) (H' : Hp), Due (Txt.split z "\n") d → Dp K H' (.ref q) d → SeqAt.shaped d = true → Same H H' → Q (.ref q) H'
def spUnlikeB (K : PySem.W.Frag) : Sp := fun vs H Q _ => ∃ (a : Addr) (ns : List PySem.Str), vs = [.ref a] ∧ SqL K H a (ns.map V.str) ∧ ns.length ≤ 10000 ∧
  ∀ (q : Addr) (os : List PySem.Str) (H' : Hp), H q = none → H' q = some (.lst (os.map V.str)) → (∀ k, k ∈ os ↔ k ∈ ns) → (os.length ≤ ns.length ∧ Asc os) → Same H H' → Q (.ref q) H'
def spStatesB (K : PySem.W.Frag) : Sp := fun vs H Q _ => ∃ (m a b e : Addr) (us : List V) (xs : List Arw) (ss es : List PySem.Str), vs = [.ref m] ∧ MadeL K H m a b e us xs ss es ∧ H b = some (.lst (ss.map V.str)) ∧ H e = some (.lst (es.map V.str)) ∧ ss.length + es.length + 2 * xs.length ≤ 10000 ∧
  ∀ (q : Addr) (os : List PySem.Str) (H' : Hp), H q = none → H' q = some (.lst (os.map V.str)) → StaOf xs ss es os → Same H H' → Q (.ref q) H'
def spLName : Sp := fun vs H Q _ => ∃ s : PySem.Str, vs = [.str s] ∧ s.length ≤ 100000 ∧ ∀ H', Same H H' → Q (.bl (nmB s)) H'
def spLArrow (K : PySem.W.Frag) : Sp := fun vs H Q _ => ∃ (a : Addr) (ws : List PySem.Str), vs = [.ref a] ∧ SqL K H a (ws.map V.str) ∧ ws.length ≤ 1000 ∧ (∀ w ∈ ws, w.length ≤ 400) ∧
  (∀ x : Arw, ws = arP x → x.Ok → ∀ (q : Addr) (H' : Hp), H q = none → H' q = some (.tup x.vals) → Same H H' → Q (.ref q) H') ∧ ((¬ ∃ x : Arw, ws = arP x ∧ x.Ok) → ∀ H', Same H H' → Q .non H')
def spLRise (K : PySem.W.Frag) : Sp := fun vs H Q _ => ∃ (a : Addr) (ws : List PySem.Str), vs = [.ref a] ∧ SqL K H a (ws.map V.str) ∧ ws.length ≤ 1000 ∧ (∀ w ∈ ws, w.length ≤ 400 ∧ Asci w) ∧
  (Asc ws → (∀ s ∈ ws, Nm s) → ∀ H', Same H H' → Q (.bl true) H') ∧ (¬ (Asc ws ∧ ∀ s ∈ ws, Nm s) → ∀ H', Same H H' → Q (.bl false) H')
def spBent : Sp := fun vs H Q _ => ∃ (p : Addr) (c n m : Nat) (z : PySem.Str), vs = [.ref p, .str z] ∧ Src H p c ∧ c ≤ 900000 ∧ TxB z n m ∧ n ≤ 50000 ∧ m ≤ 400 ∧ ∀ (y : PySem.Str) (H' : Hp), TxB y (n + m + 10) (2 * m + 5) → Go p (c + 5) H H' → Q (.str y) H'
def spLong : Sp := fun vs H Q _ => ∃ (p : Addr) (c : Nat), vs = [.ref p] ∧ Src H p c ∧ c ≤ 900000 ∧ ∀ (y : PySem.Str) (H' : Hp), TxB y 20000 45 → Go p (c + 5) H H' → Q (.str y) H'
theorem asc_stepP {ys : List PySem.Str} {i : Nat} {u z : PySem.Str} (h : ys.Pairwise fun x y => ¬ y.cps.toList < x.cps.toList) (hu : ys[i]? = some u) (hz : z ∈ ys.take i) (ne : z ≠ u) : z.cps.toList < u.cps.toList := by
  have q := h.sublist (List.take_sublist (i + 1) ys)
  have tk : ys.take (i + 1) = ys.take i ++ [u] := by rw [List.take_add_one, hu]; rfl
  rw [tk] at q
  have r := (List.pairwise_append.mp q).2.2 z hz u (List.mem_singleton.mpr rfl)
  exact Classical.byContradiction fun c => ne (ext_tl (List.le_antisymm (List.not_lt.mp r) (List.not_lt.mp c)))
theorem sOk_asc {s : PySem.Str} (h : Asci s) : PyData.strOk s = true := by
  show s.cps.all _ = true
  rw [all_tl]
  exact List.all_eq_true.mpr fun c hc => decide_eq_true (by have := h c hc; omega)
theorem lstrB_lay {r : List PySem.Str} (h : ∀ s ∈ r, Asci s) : PyData.canLayAll0 (r.map PyData.str) = true ∧ PyData.depthAll (r.map PyData.str) ≤ 0 := by
  induction r with
  | nil => exact ⟨by simp only [List.map_nil, PyData.canLayAll0], by simp only [List.map_nil, PyData.depthAll]; omega⟩
  | cons s r ih =>
    obtain ⟨h1, h2⟩ := ih fun t ht => h t (List.mem_cons_of_mem _ ht)
    simp only [List.map_cons, PyData.canLayAll0, PyData.depthAll, PyData.canLay0, PyData.depth, sOk_asc (h s (List.mem_cons_self ..)), h1]
    exact ⟨rfl, by omega⟩
theorem shaped_lasc {r : List PySem.Str} (h : ∀ s ∈ r, Asci s) : SeqAt.shaped (.list (r.map PyData.str)) = true := by
  obtain ⟨h1, h2⟩ := lstrB_lay h
  unfold SeqAt.shaped
  simp only [PyData.canLay0, PyData.depth, h1, Bool.true_and]
  exact decide_eq_true (by omega)
end Bz

namespace Bz
open PySem PySem.Spec PyProof.Rows L2
/-! ### values to be compared, put together -/
structure Lay (d : PyData) (n : Nat) : Prop where
  can : d.canLay0 = true
  dep : d.depth ≤ n
structure LayAll (ds : List PyData) (n : Nat) : Prop where
  can : PyData.canLayAll0 ds = true
  dep : PyData.depthAll ds ≤ n
theorem LayAll.nil {n : Nat} : LayAll [] n := ⟨by simp only [PyData.canLayAll0], by simp only [PyData.depthAll]; omega⟩
theorem LayAll.cons {d : PyData} {ds : List PyData} {n : Nat} (h : Lay d n) (k : LayAll ds n) : LayAll (d :: ds) n := by
  obtain ⟨a, b⟩ := h
  obtain ⟨c, e⟩ := k
  refine ⟨by simp only [PyData.canLayAll0, a, c]; rfl, ?_⟩
  simp only [PyData.depthAll]
  omega
theorem LayAll.map {α : Type} {f : α → PyData} {xs : List α} {n : Nat} (h : ∀ x ∈ xs, Lay (f x) n) : LayAll (xs.map f) n := by
  induction xs with
  | nil => exact .nil
  | cons x xs ih => exact .cons (h x (List.mem_cons_self ..)) (ih fun y hy => h y (List.mem_cons_of_mem _ hy))
theorem LayAll.tup {ds : List PyData} {n : Nat} (h : LayAll ds n) : Lay (.tuple ds) (n + 1) := by
  obtain ⟨a, b⟩ := h
  refine ⟨by simp only [PyData.canLay0, a], ?_⟩
  simp only [PyData.depth]
  omega
theorem LayAll.lst {ds : List PyData} {n : Nat} (h : LayAll ds n) : Lay (.list ds) (n + 1) := by
  obtain ⟨a, b⟩ := h
  refine ⟨by simp only [PyData.canLay0, a], ?_⟩
  simp only [PyData.depth]
  omega
theorem Lay.str {s : PySem.Str} {n : Nat} (h : Asci s) : Lay (.str s) n := ⟨by simp only [PyData.canLay0, sOk_asc h], by simp only [PyData.depth]; omega⟩
theorem Lay.int {i : Int} {n : Nat} : Lay (.int i) n := ⟨by simp only [PyData.canLay0], by simp only [PyData.depth]; omega⟩
theorem Lay.non {n : Nat} : Lay .none n := ⟨by simp only [PyData.canLay0], by simp only [PyData.depth]; omega⟩
theorem Lay.bool {b : Bool} {n : Nat} : Lay (.bool b) n := ⟨by simp only [PyData.canLay0], by simp only [PyData.depth]; omega⟩
theorem Lay.mono {d : PyData} {n m : Nat} (h : Lay d n) (k : n ≤ m) : Lay d m := ⟨h.can, Nat.le_trans h.dep k⟩
theorem Lay.shaped {d : PyData} {n : Nat} (h : Lay d n) (k : n ≤ 64 := by decide) : SeqAt.shaped d = true := by
  unfold SeqAt.shaped
  rw [h.can, decide_eq_true (Nat.le_trans h.dep k)]
  rfl
theorem asci_sg {s : PySem.Str} (h : ∀ c ∈ TL.tl s, Sg c) : Asci s := fun c hc => by have := (h c hc).2; omega
theorem asci_nm {s : PySem.Str} (h : Nm s) : Asci s := asci_sg h.2.2
theorem Lay.arw {x : Arw} (h : x.Ok) : Lay (dAr x) 1 := LayAll.tup (.cons (.str (asci_sg h.s.2.2)) (.cons (.str (asci_sg h.l.2)) (.cons (.str (asci_sg h.t.2.2)) (.cons .int .nil))))
theorem asci_told : Asci "told" ∧ Asci "line" ∧ Asci "many" ∧ Asci "none" := by unfold Asci; decide +kernel
theorem Lay.told {xs : List Arw} {ss es : List PySem.Str} (h : ∀ x ∈ xs, x.Ok) (hs : ∀ s ∈ ss, Nm s) (he : ∀ s ∈ es, Nm s) : Lay (toldD xs ss es) 3 :=
  LayAll.tup (.cons (.str asci_told.1) (.cons (LayAll.map fun x hx => Lay.arw (h x hx)).tup (.cons ((LayAll.map fun x hx => Lay.str (asci_nm (hs x hx))).tup (n := 1)) (.cons ((LayAll.map fun x hx => Lay.str (asci_nm (he x hx))).tup (n := 1)) .nil))))
theorem Lay.line {n : Nat} : Lay (lineD n) 1 := LayAll.tup (.cons (.str asci_told.2.1) (.cons .int .nil))
theorem Lay.many {n : Nat} : Lay (manyD n) 1 := LayAll.tup (.cons (.str asci_told.2.2.1) (.cons .int .nil))
theorem goodA_ok : ∀ {ls : List PySem.Str} {xs : List Arw}, Paired RdA ls xs → ∀ x ∈ xs, x.Ok
  | _, _, .cons a r, x, h => (List.mem_cons.mp h).elim (fun e => by rw [e]; exact a.2) fun h => goodA_ok r x h
theorem sort_told {xs : List Arw} {ss es : List PySem.Str} {M : MachV} (h : MOf M xs ss es) (hG : xs.Pairwise fun x y => lexK x.k3 y.k3 = true) (hs : Asc ss) (he : Asc es) : M.ars = xs ∧ M.sts = ss ∧ M.ens = es :=
  ⟨h.ars.uniq (cheap_selfA hG), asc_uniq h.sts.1 hs h.sts.2, asc_uniq h.ens.1 he h.ens.2⟩
/-! ### bounds of texts put together -/
theorem tl_jn (s : PySem.Str) (ps : List PySem.Str) : TL.tl (Txt.join s ps) = TL.joinL (TL.tl s) (ps.map TL.tl) := by
  rw [TL.join_eq, TL.tl_join]
theorem joinL_memB {s : List Nat} : ∀ {ps : List (List Nat)} {c : Nat}, c ∈ TL.joinL s ps → c ∈ s ∨ ∃ p ∈ ps, c ∈ p
  | [], _, h => by cases h
  | [p], _, h => .inr ⟨p, List.mem_cons_self .., h⟩
  | p :: q :: r, c, h => by
    have h' : c ∈ p ++ (s ++ TL.joinL s (q :: r)) := h
    rcases List.mem_append.mp h' with h | h
    · exact .inr ⟨p, List.mem_cons_self .., h⟩
    · rcases List.mem_append.mp h with h | h
      · exact .inl h
      · rcases joinL_memB h with h | ⟨z, hz, h⟩
        · exact .inl h
        · exact .inr ⟨z, List.mem_cons_of_mem _ hz, h⟩
theorem asci_join {s : PySem.Str} {ps : List PySem.Str} (hs : Asci s) (h : ∀ p ∈ ps, Asci p) : Asci (Txt.join s ps) := by
  intro c hc
  rw [tl_jn] at hc
  rcases joinL_memB hc with q | ⟨p, hp, q⟩
  · exact hs c q
  · obtain ⟨z, hz, rfl⟩ := List.mem_map.mp hp
    exact h z hz c q
theorem asci_app {a b : PySem.Str} (h : Asci a) (k : Asci b) : Asci (a ++ b) := by
  intro c hc
  rw [TL.tl_append] at hc
  exact (List.mem_append.mp hc).elim (h c) (k c)
theorem TxB.join {ps : List PySem.Str} {n m : Nat} (h : ∀ p ∈ ps, p.length ≤ m ∧ Asci p) (hn : (ps.map (·.length)).sum + ps.length ≤ n) : TxB (Txt.join "\n" ps) n m := by
  refine ⟨?_, ?_, asci_join (by unfold Asci; decide +kernel) fun p hp => (h p hp).2⟩
  · have l1 : ("\n" : PySem.Str).length = 1 := by decide +kernel
    have := join_le "\n" ps
    rw [l1] at this
    omega
  · rw [tl_jn, tl_nl]
    refine RunB.join fun p hp => ?_
    obtain ⟨z, hz, rfl⟩ := List.mem_map.mp hp
    rw [← len_tl]
    exact (h z hz).1
theorem TxB.app {a b : PySem.Str} {n m n' m' : Nat} (h : TxB a n m) (k : TxB b n' m') : TxB (a ++ b) (n + n') (m + m') := by
  refine ⟨by rw [PySem.Str.length_append]; exact Nat.add_le_add h.len k.len, ?_, asci_app h.asc k.asc⟩
  rw [TL.tl_append]
  exact h.run.app k.run
theorem TxB.short {a : PySem.Str} {n : Nat} (h : a.length ≤ n) (k : Asci a) : TxB a n n := ⟨h, (RunB.short).mono (by rw [← len_tl]; exact h), k⟩
theorem cutS_inf (z : PySem.Str) (lo hi : Option Int) : TL.tl (cutS z lo hi) <:+: TL.tl z := by
  show ((z.cps.toList.drop (HT.sIx z.length 0 lo)).take (HT.sIx z.length z.length hi - HT.sIx z.length 0 lo)).toArray.toList <:+: z.cps.toList
  rw [List.toList_toArray]
  exact (List.take_prefix _ _).isInfix.trans (List.drop_suffix _ _).isInfix
theorem TxB.cut {z : PySem.Str} {n m : Nat} (h : TxB z n m) (lo hi : Option Int) : TxB (cutS z lo hi) n m :=
  ⟨Nat.le_trans (cutS_length z lo hi) h.len, h.run.sub (cutS_inf z lo hi), fun c hc => h.asc c ((cutS_inf z lo hi).subset hc)⟩
theorem cut_two (z : PySem.Str) {k : Nat} (i j : Int) (h0 : i = (k : Nat)) (hj : i ≤ j) : (cutS z none (some i)).length + (cutS z (some j) none).length ≤ z.length := by
  have e1 : (cutS z none (some i)).length = min k z.length := by
    rw [h0]
    show (((z.cps.toList.drop (HT.sIx z.length 0 none)).take (HT.sIx z.length z.length (some ((k : Nat) : Int)) - HT.sIx z.length 0 none)).toArray).size = _
    rw [HT.sIx_nat, HT.sIx_none, List.size_toArray, List.length_take, List.length_drop, Array.length_toList]
    show min (min k z.length - 0) (z.length - 0) = _
    omega
  have e2 : (cutS z (some j) none).length ≤ z.length - j.toNat := by
    show (((z.cps.toList.drop (HT.sIx z.length 0 (some j))).take (HT.sIx z.length z.length none - HT.sIx z.length 0 (some j))).toArray).size ≤ _
    obtain ⟨q, rfl⟩ : ∃ q : Nat, j = (q : Nat) := ⟨j.toNat, by omega⟩
    rw [HT.sIx_nat, HT.sIx_none, List.size_toArray, List.length_take, List.length_drop, Array.length_toList]
    show min (z.length - min q z.length) (z.length - min q z.length) ≤ _
    omega
  omega
theorem sum_erase {xs : List Nat} {k : Nat} {y : Nat} (h : xs[k]? = some y) : (xs.eraseIdx k).sum + y = xs.sum := by
  induction xs generalizing k with
  | nil => cases h
  | cons x xs ih =>
    cases k with
    | zero =>
      obtain rfl := Option.some.inj h
      simp only [List.eraseIdx_cons_zero, List.sum_cons]
      omega
    | succ k =>
      have := ih (k := k) h
      simp only [List.eraseIdx_cons_succ, List.sum_cons]
      omega
theorem len_erase1 {α : Type} {xs : List α} {k : Nat} {y : α} (h : xs[k]? = some y) : (xs.eraseIdx k).length + 1 = xs.length := by
  have := (List.getElem?_eq_some_iff.mp h).1
  rw [List.length_eraseIdx_of_lt this]
  omega
mutual
theorem Dp.sameB {K : PySem.W.Frag} {H H' : Hp} (s : Same H H') : ∀ {v : V} {d : PyData}, Dp K H v d → Dp K H' v d
  | _, _, .non => .non
  | _, _, .bl b => .bl b
  | _, _, .int i => .int i
  | _, _, .str x => .str x
  | _, _, .lst a b => .lst (s.seq a) (DpAll.sameB s b)
  | _, _, .tup a b => .tup (sqt_same s a) (DpAll.sameB s b)
theorem DpAll.sameB {K : PySem.W.Frag} {H H' : Hp} (s : Same H H') : ∀ {vs : List V} {ds : List PyData}, DpAll K H vs ds → DpAll K H' vs ds
  | _, _, .nil => .nil
  | _, _, .cons a b => .cons (Dp.sameB s a) (DpAll.sameB s b)
end
theorem due_eqv {ls : List PySem.Str} {d : PyData} (h : Due ls d) : PyData.eqv d d = true := by
  cases h with
  | line lt g b => simp [lineD, PyData.eqv, PyData.eqvAll]
  | one l1 g => simp [lineD, PyData.eqv, PyData.eqvAll]
  | many h0 h1 h2 h3 h4 => simp [manyD, PyData.eqv, PyData.eqvAll]
  | @told l0 l1 r ss es os xs h0 h1 h2 h3 h4 =>
    have e1 := eqv_ars xs xs
    have e2 := eqv_tstrs ss
    have e3 := eqv_tstrs es
    unfold toldD
    generalize PyData.tuple (xs.map dAr) = d1 at e1 ⊢
    generalize PyData.tuple (ss.map PyData.str) = d2 at e2 ⊢
    generalize PyData.tuple (es.map PyData.str) = d3 at e3 ⊢
    simp [PyData.eqv, PyData.eqvAll, e1, e2, e3]
theorem TxtOk.small {ss es : List PySem.Str} {xs : List Arw} (h : TxtOk ss es xs) (hs : ss.length ≤ 4) (he : es.length ≤ 4) (hx : xs.length ≤ 400) : TxB (textM ss es xs) 20000 45 := by
  have l5 : ("start" : PySem.Str).length = 5 := by decide +kernel
  have l3 : ("end" : PySem.Str).length = 3 := by decide +kernel
  have a5 : Asci "start" ∧ Asci "end" ∧ Asci " " := by unfold Asci; decide +kernel
  have key : ∀ p ∈ linesM ss es xs, p.length ≤ 45 ∧ Asci p := by
    intro p hp
    unfold linesM at hp
    simp only [List.mem_cons, List.mem_map] at hp
    rcases hp with rfl | rfl | ⟨x, hx, rfl⟩
    · refine ⟨Nat.le_trans (line_len (n := 8) fun q hq => (List.mem_cons.mp hq).elim (fun e => by rw [e, l5]; omega) fun hq => (h.sn q hq).2.1) (by rw [List.length_cons]; omega), asci_join a5.2.2 fun q hq => (List.mem_cons.mp hq).elim (fun e => by rw [e]; exact a5.1) fun hq => asci_nm (h.sn q hq)⟩
    · refine ⟨Nat.le_trans (line_len (n := 8) fun q hq => (List.mem_cons.mp hq).elim (fun e => by rw [e, l3]; omega) fun hq => (h.en q hq).2.1) (by rw [List.length_cons]; omega), asci_join a5.2.2 fun q hq => (List.mem_cons.mp hq).elim (fun e => by rw [e]; exact a5.2.1) fun hq => asci_nm (h.en q hq)⟩
    · have ox := h.ok x hx
      refine ⟨by have := arL_len ox; omega, asci_join a5.2.2 fun q hq => ?_⟩
      unfold arP at hq
      simp only [List.mem_cons, List.not_mem_nil, or_false] at hq
      rcases hq with rfl | rfl | rfl | rfl
      · exact asci_nm ox.s
      · exact asci_sg ox.l.2
      · exact asci_nm ox.t
      · have := (cost_ok ox.c0 ox.c1).a
        unfold Txt.isascii at this
        rw [all_tl] at this
        exact fun c hc => of_decide_eq_true (List.all_eq_true.mp this c hc)
  have := sum_le fun p hp => (key p hp).1
  rw [linesM_len] at this
  exact TxB.join key (by rw [linesM_len]; omega)
theorem TxB.lines_sum {z : PySem.Str} {n m : Nat} (h : TxB z n m) : ((Txt.split z "\n").map (·.length)).sum + (Txt.split z "\n").length ≤ n + 1 := by
  have := split_weight z "\n" (by decide +kernel)
  have := h.len
  omega
end Bz

namespace Bz
open PySem PySem.Spec PyProof.Rows L2
/-! ### objects that may be no arrows, no names -/
def FlatV : V → Prop
  | .str s => s.length ≤ 100 ∧ Asci s
  | .int _ => True
  | .bl _ => True
  | .non => True
  | _ => False
def tagV : V → String
  | .str _ => "str"
  | .int _ => "int"
  | .bl _ => "bool"
  | _ => "NoneType"
def datV : V → PyData
  | .str s => .str s
  | .int i => .int i
  | .bl b => .bool b
  | _ => .none
theorem FlatV.kn {H : Hp} {v : V} (h : FlatV v) : Kn H v (tagV v) := by
  cases v with
  | str s => exact .str s (by have := h.1; omega)
  | int i => exact .int i
  | bl b => exact .bl b
  | non => exact .non
  | _ => exact h.elim
theorem FlatV.dp {K : PySem.W.Frag} {H : Hp} {v : V} (h : FlatV v) : Dp K H v (datV v) := by
  cases v with
  | str s => exact .str s
  | int i => exact .int i
  | bl b => exact .bl b
  | non => exact .non
  | _ => exact h.elim
theorem FlatV.lay {v : V} (h : FlatV v) {n : Nat} : Lay (datV v) n := by
  cases v with
  | str s => exact .str h.2
  | int i => exact .int
  | bl b => exact .bool
  | non => exact .non
  | _ => exact h.elim
def letV : V → Bool
  | .str s => ltB s
  | _ => false
def priV : V → Bool
  | .int i => prB i
  | _ => false
def candB : Option (List V) → Bool
  | some [a, b, c, d] => nameV a && (letV b && (nameV c && priV d))
  | _ => false
inductive Cv (H : Hp) : V → Option (List V) → Prop
  | lst {a : Addr} {xs : List V} (e : H a = some (.lst xs)) : Cv H (.ref a) (some xs)
  | tup {a : Addr} {xs : List V} (e : H a = some (.tup xs)) : Cv H (.ref a) (some xs)
  | no {v : V} (h : FlatV v) : Cv H v none
theorem tagV_ne (v : V) : tagV v ≠ "list" ∧ tagV v ≠ "tuple" := by cases v <;> simp [tagV]
theorem Cv.sv {H : Hp} {v : V} {o : Option (List V)} (h : Cv H v o) : Sv H v o := by
  cases h with
  | lst e => exact .lst e
  | tup e => exact .tup e
  | no hf => exact .no hf.kn (tagV_ne v).1 (tagV_ne v).2
structure Cand (H : Hp) (v : V) (o : Option (List V)) : Prop where
  cv : Cv H v o
  fl : ∀ xs, o = some xs → xs.length ≤ 20 ∧ ∀ x ∈ xs, FlatV x
theorem Cand.sv {H : Hp} {v : V} {o : Option (List V)} (h : Cand H v o) : Sv H v o := h.cv.sv
theorem Cand.same {H H' : Hp} {v : V} {o : Option (List V)} (h : Cand H v o) (s : Same H H') : Cand H' v o := by
  refine ⟨?_, h.fl⟩
  cases h.cv with
  | lst e => exact .lst (s _ _ e)
  | tup e => exact .tup (s _ _ e)
  | no hf => exact .no hf
theorem Cand.ext {H H' : Hp} {p : Addr} {v : V} {o : Option (List V)} (h : Cand H v o) (n : v ≠ .ref p) (s : Ext p H H') : Cand H' v o := by
  refine ⟨?_, h.fl⟩
  cases h.cv with
  | lst e => exact .lst (s _ _ (fun z => n (by rw [z])) e)
  | tup e => exact .tup (s _ _ (fun z => n (by rw [z])) e)
  | no hf => exact .no hf
/-- the arrow told by an object -/
def arwV : Option (List V) → Arw
  | some [.str a, .str b, .str c, .int d] => ⟨a, b, c, d⟩
  | _ => ⟨"", "", "", 0⟩
theorem letV_of {s : PySem.Str} (h : ltB s = true) : Lt s := by
  unfold ltB at h
  simp only [Bool.and_eq_true, decide_eq_true_eq] at h
  exact ⟨h.1, (nmB_iff.mp (by rw [nmB_only, h.2, decide_eq_true (show s.length ≤ 8 from by have := h.1; omega)]; rfl)).2.2⟩
theorem candB_of {o : Option (List V)} (h : candB o = true) : o = some (arwV o).vals ∧ (arwV o).Ok := by
  unfold candB at h
  split at h
  · rename_i a b c d
    simp only [Bool.and_eq_true] at h
    obtain ⟨h1, h2, h3, h4⟩ := h
    obtain ⟨a, rfl⟩ : ∃ s, a = .str s := by cases a with | str s => exact ⟨s, rfl⟩ | _ => cases h1
    obtain ⟨b, rfl⟩ : ∃ s, b = .str s := by cases b with | str s => exact ⟨s, rfl⟩ | _ => cases h2
    obtain ⟨c, rfl⟩ : ∃ s, c = .str s := by cases c with | str s => exact ⟨s, rfl⟩ | _ => cases h3
    obtain ⟨d, rfl⟩ : ∃ s, d = .int s := by cases d with | int s => exact ⟨s, rfl⟩ | _ => cases h4
    have h4' : prB d = true := h4
    unfold prB at h4'
    simp only [Bool.and_eq_true, decide_eq_true_eq] at h4'
    exact ⟨rfl, nmB_iff.mp h1, letV_of h2, nmB_iff.mp h3, h4'.1, h4'.2⟩
  · cases h
theorem Cand.arw {H : Hp} {v : V} {o : Option (List V)} (h : Cand H v o) (b : candB o = true) : ∃ q, v = .ref q ∧ ArO H q (arwV o) := by
  obtain ⟨e, _⟩ := candB_of b
  have c := h.cv
  rw [e] at c
  cases c with
  | lst e => exact ⟨_, rfl, .inr e⟩
  | tup e => exact ⟨_, rfl, .inl e⟩
/-- the first object that is no arrow, or one too many -/
structure BadAt (us : List V) (rs : V → Option (List V)) (i : Nat) : Prop where
  lt : i < us.length
  le : i ≤ 400
  ok : ∀ u ∈ us.take i, candB (rs u) = true
  no : i = 400 ∨ ∃ u, us[i]? = some u ∧ candB (rs u) = false
def GoodArs (us : List V) (rs : V → Option (List V)) : Prop := us.length ≤ 400 ∧ ∀ u ∈ us, candB (rs u) = true
structure BadSt (ss : List V) (i : Nat) (v : V) : Prop where
  at_ : ss[i]? = some v
  ok : ∀ u ∈ ss.take i, nameV u = true
  no : nameV v = false
theorem mem_take_at {α : Type} {xs : List α} {i j : Nat} {u : α} (h : xs[i]? = some u) (k : i < j) : u ∈ xs.take j := by
  refine List.mem_of_getElem? (i := i) ?_
  rw [List.getElem?_take_of_lt k]
  exact h
theorem BadAt.uniq {us : List V} {rs : V → Option (List V)} {i j : Nat} (h : BadAt us rs i) (k : BadAt us rs j) : i = j := by
  have key : ∀ {i j : Nat}, BadAt us rs i → BadAt us rs j → ¬ i < j := fun {i j} h k lt => by
    rcases h.no with e | ⟨u, hu, hf⟩
    · have := k.le
      omega
    · rw [k.ok u (mem_take_at hu lt)] at hf
      cases hf
  have := key h k
  have := key k h
  omega
theorem BadAt.not {us : List V} {rs : V → Option (List V)} {i : Nat} (h : BadAt us rs i) (g : GoodArs us rs) : False := by
  rcases h.no with e | ⟨u, hu, hf⟩
  · have := h.lt
    have := g.1
    omega
  · rw [g.2 u (List.mem_of_getElem? hu)] at hf
    cases hf
theorem BadSt.uniq {ss : List V} {i j : Nat} {v u : V} (h : BadSt ss i v) (k : BadSt ss j u) : v = u := by
  have key : ∀ {i j : Nat} {v u : V}, BadSt ss i v → BadSt ss j u → ¬ i < j := fun {i j v u} h k lt => by
    have := h.no
    rw [k.ok v (mem_take_at h.at_ lt)] at this
    cases this
  have h1 := key h k
  have h2 := key k h
  have e : i = j := by omega
  subst e
  have := h.at_
  rw [k.at_] at this
  exact (Option.some.inj this).symm
theorem BadSt.not {ss : List V} {i : Nat} {v : V} (h : BadSt ss i v) (g : ∀ u ∈ ss, nameV u = true) : False := by
  have := h.no
  rw [g v (List.mem_of_getElem? h.at_)] at this
  cases this
theorem BadSt.left {ss es : List V} {i : Nat} {v : V} (h : BadSt ss i v) : BadSt (ss ++ es) i v := by
  have lt := (List.getElem?_eq_some_iff.mp h.at_).1
  refine ⟨by rw [List.getElem?_append_left lt]; exact h.at_, ?_, h.no⟩
  rw [List.take_append_of_le_length (by omega)]
  exact h.ok
theorem BadSt.right {ss es : List V} {i : Nat} {v : V} (h : BadSt es i v) (g : ∀ u ∈ ss, nameV u = true) : BadSt (ss ++ es) (ss.length + i) v := by
  refine ⟨by rw [List.getElem?_append_right (by omega)]; simpa using h.at_, ?_, h.no⟩
  rw [List.take_append]
  intro u hu
  rcases List.mem_append.mp hu with hu | hu
  · exact g u (List.mem_of_mem_take hu)
  · rw [show ss.length + i - ss.length = i from by omega] at hu
    exact h.ok u hu
def arrowD (n : Nat) : PyData := .tuple [.str "arrow", .int (n : Nat)]
def stateD (v : V) : PyData := .tuple [.str "state", datV v]
def toldN (n : Nat) : PyData := .tuple [.str "told", .int (n : Nat)]
def arsV (us : List V) (rs : V → Option (List V)) : List Arw := us.map fun u => arwV (rs u)
theorem arE_of {H : Hp} {rs : V → Option (List V)} : ∀ {us : List V}, (∀ u ∈ us, candB (rs u) = true) → (∀ u ∈ us, Cand H u (rs u)) → ArE H us (arsV us rs)
  | [], _, _ => .nil
  | u :: us, h, k => .cons ((k u (List.mem_cons_self ..)).arw (h u (List.mem_cons_self ..))) (arE_of (fun v hv => h v (List.mem_cons_of_mem _ hv)) fun v hv => k v (List.mem_cons_of_mem _ hv))
theorem sta_cheap {xs ys : List Arw} {ss es : List PySem.Str} (h : CheapOf xs ys) (k : PySem.Str) : (k ∈ ss ∨ k ∈ es ∨ ∃ x ∈ ys, k = x.s ∨ k = x.t) ↔ (k ∈ ss ∨ k ∈ es ∨ ∃ x ∈ xs, k = x.s ∨ k = x.t) := by
  constructor
  · rintro (q | q | ⟨x, hx, q⟩)
    · exact .inl q
    · exact .inr (.inl q)
    · exact .inr (.inr ⟨x, (h.sub x hx).1, q⟩)
  · rintro (q | q | ⟨x, hx, q⟩)
    · exact .inl q
    · exact .inr (.inl q)
    · obtain ⟨y, hy, e⟩ := h.all x hx
      obtain ⟨e1, _, e3⟩ := Arw.k3_eq e
      exact .inr (.inr ⟨y, hy, by rw [e1, e3]; exact q⟩)
inductive DueM (us : List V) (rs : V → Option (List V)) (ss es : List V) : PyData → Prop
  | arrow {i : Nat} (b : BadAt us rs i) : DueM us rs ss es (arrowD (i + 1))
  | state {i : Nat} {v : V} (g : GoodArs us rs) (b : BadSt (ss ++ es) i v) : DueM us rs ss es (stateD v)
  | many {os : List PySem.Str} (g : GoodArs us rs) (n : ∀ u ∈ ss ++ es, nameV u = true) (st : StaOf (arsV us rs) (ss.map strV) (es.map strV) os) (m : 40 < os.length) : DueM us rs ss es (manyD os.length)
  | told {os : List PySem.Str} (g : GoodArs us rs) (n : ∀ u ∈ ss ++ es, nameV u = true) (st : StaOf (arsV us rs) (ss.map strV) (es.map strV) os) (m : os.length ≤ 40) : DueM us rs ss es (toldN os.length)
theorem DueM.uniq {us : List V} {rs : V → Option (List V)} {ss es : List V} {d d' : PyData} (h : DueM us rs ss es d) (k : DueM us rs ss es d') : d = d' := by
  cases h with
  | arrow b =>
    cases k with
    | arrow b' => rw [b.uniq b']
    | state g b' => exact (b.not g).elim
    | many g n st m => exact (b.not g).elim
    | told g n st m => exact (b.not g).elim
  | state g b =>
    cases k with
    | arrow b' => exact (b'.not g).elim
    | state g b' => rw [b.uniq b']
    | many g n st m => exact (b.not n).elim
    | told g n st m => exact (b.not n).elim
  | many g n st m =>
    cases k with
    | arrow b' => exact (b'.not g).elim
    | state g b' => exact (b'.not n).elim
    | many g' n' st' m' => rw [st.uniq st']
    | told g' n' st' m' =>
      rw [st.uniq st'] at m
      omega
  | told g n st m =>
    cases k with
    | arrow b' => exact (b'.not g).elim
    | state g b' => exact (b'.not n).elim
    | many g' n' st' m' =>
      rw [st.uniq st'] at m
      omega
    | told g' n' st' m' => rw [st.uniq st']
theorem dueM_eqv {us : List V} {rs : V → Option (List V)} {ss es : List V} {d : PyData} (h : DueM us rs ss es d) : PyData.eqv d d = true := by
  cases h with
  | arrow b => simp [arrowD, PyData.eqv, PyData.eqvAll]
  | @state i v g b =>
    have e : PyData.eqv (datV v) (datV v) = true := by cases v <;> simp [datV, PyData.eqv]
    unfold stateD
    generalize datV v = d at e
    simp [PyData.eqv, PyData.eqvAll, e]
  | many g n st m => simp [manyD, PyData.eqv, PyData.eqvAll]
  | told g n st m => simp [toldN, PyData.eqv, PyData.eqvAll]
theorem asci_arrow : Asci "arrow" ∧ Asci "state" := by unfold Asci; decide +kernel
theorem Lay.arrow {n : Nat} : Lay (arrowD n) 1 := LayAll.tup (.cons (.str asci_arrow.1) (.cons .int .nil))
theorem Lay.state {v : V} (h : FlatV v) : Lay (stateD v) 1 := LayAll.tup (.cons (.str asci_arrow.2) (.cons h.lay .nil))
theorem Lay.toldN {n : Nat} : Lay (toldN n) 1 := LayAll.tup (.cons (.str asci_told.1) (.cons .int .nil))
/-! ### promises -/
def spIsLetV : Sp := fun vs H Q _ => ∃ (v : V) (t : String), vs = [v] ∧ Kn H v t ∧ Q (.bl (letV v)) H
def spIsPriV : Sp := fun vs H Q _ => ∃ (v : V) (t : String), vs = [v] ∧ Kn H v t ∧ Q (.bl (priV v)) H
def spIsArrowV : Sp := fun vs H Q _ => ∃ (v : V) (o : Option (List V)), vs = [v] ∧ Cand H v o ∧ ∀ H', Same H H' → Q (.bl (candB o)) H'
def CandAll (H : Hp) (us : List V) (rs : V → Option (List V)) : Prop := ∀ u ∈ us, Cand H u (rs u)
theorem CandAll.same {H H' : Hp} {us : List V} {rs : V → Option (List V)} (h : CandAll H us rs) (s : Same H H') : CandAll H' us rs := fun u hu => (h u hu).same s
def spCheckArrowsV (K : PySem.W.Frag) (C : Addr) : Sp := fun vs H Q E => ∃ (a : Addr) (us : List V) (rs : V → Option (List V)), vs = [.ref a] ∧ SqL K H a us ∧ CandAll H us rs ∧ us.length ≤ 1000 ∧
  (GoodArs us rs → ∀ H', Same H H' → Q .non H') ∧ (∀ i, BadAt us rs i → ∀ H' d, Same H H' → H' d = none → E (.ref C) (some d) (upd H' d (xdLine (i + 1))))
def spCheckNamesV (K : PySem.W.Frag) (C : Addr) : Sp := fun vs H Q E => ∃ (a : Addr) (ss : List V), vs = [.ref a] ∧ SqL K H a ss ∧ (∀ s ∈ ss, FlatV s) ∧ ss.length ≤ 1000 ∧
  ((∀ u ∈ ss, nameV u = true) → ∀ H', Same H H' → Q .non H') ∧ (∀ i v, BadSt ss i v → ∀ H' d, Same H H' → H' d = none → E (.ref C) (some d) (upd H' d (.xd [(("state" : PySem.Str), v)])))
def spInitV (K : PySem.W.Frag) (C CA CS CT : Addr) : Sp := fun vs H Q E => ∃ (m a b e dx : Addr) (us ss es : List V) (rs : V → Option (List V)), vs = [.ref m, .ref a, .ref b, .ref e] ∧ H m = some (.ins C dx []) ∧ SqL K H a us ∧ CandAll H us rs ∧ us.length ≤ 1000 ∧
  SqL K H b ss ∧ SqL K H e es ∧ (∀ s ∈ ss, FlatV s) ∧ (∀ s ∈ es, FlatV s) ∧ ss.length ≤ 1000 ∧ es.length ≤ 1000 ∧
  (∀ (M : MachV) (H' : Hp), IsMach C H' m M → GoodArs us rs → (∀ u ∈ ss ++ es, nameV u = true) → StaOf (arsV us rs) (ss.map strV) (es.map strV) M.sta → M.sta.length ≤ 40 → (∀ q o, q ≠ m → H q = some o → H' q = some o) → Q .non H') ∧
  (∀ i, BadAt us rs i → ∀ H' d, Same H H' → H' d = none → E (.ref CA) (some d) (upd H' d (xdLine (i + 1)))) ∧
  (∀ i v, GoodArs us rs → BadSt (ss ++ es) i v → ∀ H' d, Same H H' → H' d = none → E (.ref CS) (some d) (upd H' d (.xd [(("state" : PySem.Str), v)]))) ∧
  (∀ (os : List PySem.Str), GoodArs us rs → (∀ u ∈ ss ++ es, nameV u = true) → StaOf (arsV us rs) (ss.map strV) (es.map strV) os → 40 < os.length → ∀ H' d, Same H H' → H' d = none → E (.ref CT) (some d) (upd H' d (.xd [(("count" : PySem.Str), V.int (os.length : Nat))])))
/-- three lists, of objects that may be arrows and names -/
structure MadeV (K : PySem.W.Frag) (H : Hp) (m a b e : Addr) (us ss es : List V) (rs : V → Option (List V)) : Prop where
  m : H m = some (.tup [.ref a, .ref b, .ref e])
  a : H a = some (.lst us)
  b : H b = some (.lst ss)
  e : H e = some (.lst es)
  ca : CandAll H us rs
  cs : ∀ s ∈ ss, FlatV s
  ce : ∀ s ∈ es, FlatV s
theorem MadeV.same {K : PySem.W.Frag} {H H' : Hp} {m a b e : Addr} {us ss es : List V} {rs : V → Option (List V)} (h : MadeV K H m a b e us ss es rs) (s : Same H H') : MadeV K H' m a b e us ss es rs :=
  ⟨s _ _ h.m, s _ _ h.a, s _ _ h.b, s _ _ h.e, h.ca.same s, h.cs, h.ce⟩
def spDueM (K : PySem.W.Frag) : Sp := fun vs H Q _ => ∃ (m a b e : Addr) (us ss es : List V) (rs : V → Option (List V)), vs = [.ref m] ∧ MadeV K H m a b e us ss es rs ∧ 1 ≤ us.length ∧ us.length ≤ 900 ∧ ss.length ≤ 900 ∧ es.length ≤ 900 ∧
  ∀ (q : Addr) (d : PyData) (H' : Hp), DueM us rs ss es d → Dp K H' (.ref q) d → SeqAt.shaped d = true → Same H H' → Q (.ref q) H'
def spLNameV : Sp := fun vs H Q _ => ∃ (v : V) (t : String), vs = [v] ∧ Kn H v t ∧ ∀ H', Same H H' → Q (.bl (nameV v)) H'
def spStatesV (K : PySem.W.Frag) : Sp := fun vs H Q _ => ∃ (m a b e : Addr) (us : List V) (xs : List Arw) (ss es : List PySem.Str), vs = [.ref m] ∧ H m = some (.tup [.ref a, .ref b, .ref e]) ∧ H a = some (.lst us) ∧ ArE H us xs ∧ H b = some (.lst (ss.map V.str)) ∧ H e = some (.lst (es.map V.str)) ∧ ss.length + es.length + 2 * xs.length ≤ 10000 ∧
  ∀ (q : Addr) (os : List PySem.Str) (H' : Hp), H q = none → H' q = some (.lst (os.map V.str)) → StaOf xs ss es os → Same H H' → Q (.ref q) H'
/-- the objects that may be arrows, none of them the source, none too long -/
structure ArsOk (H : Hp) (p : Addr) (us : List V) (rs : V → Option (List V)) (l : Nat) : Prop where
  ca : CandAll H us rs
  ne : ∀ u ∈ us, u ≠ .ref p
  ln : ∀ u ∈ us, ∀ xs, rs u = some xs → xs.length ≤ l
theorem ArsOk.ext {H H' : Hp} {p : Addr} {us : List V} {rs : V → Option (List V)} {l : Nat} (h : ArsOk H p us rs l) (s : Ext p H H') : ArsOk H' p us rs l :=
  ⟨fun u hu => (h.ca u hu).ext (h.ne u hu) s, h.ne, h.ln⟩
theorem ArsOk.same {H H' : Hp} {p : Addr} {us : List V} {rs : V → Option (List V)} {l : Nat} (h : ArsOk H p us rs l) (s : Same H H') : ArsOk H' p us rs l :=
  ⟨h.ca.same s, h.ne, h.ln⟩
theorem ArsOk.mono {H : Hp} {p : Addr} {us : List V} {rs : V → Option (List V)} {l m : Nat} (h : ArsOk H p us rs l) (k : l ≤ m) : ArsOk H p us rs m :=
  ⟨h.ca, h.ne, fun u hu xs e => Nat.le_trans (h.ln u hu xs e) k⟩
def rsUp (rs : V → Option (List V)) (x : V) (o : Option (List V)) : V → Option (List V) := fun v => if v = x then o else rs v
theorem ArsOk.up {H : Hp} {p : Addr} {us vs : List V} {rs : V → Option (List V)} {l : Nat} {x : V} {o : Option (List V)} (h : ArsOk H p us rs l) (hc : Cand H x o) (hn : x ≠ .ref p) (hl : ∀ xs, o = some xs → xs.length ≤ l) (hv : ∀ v ∈ vs, v ∈ us ∨ v = x) : ArsOk H p vs (rsUp rs x o) l := by
  refine ⟨fun v hm => ?_, fun v hm => ?_, fun v hm xs e => ?_⟩
  · unfold rsUp
    by_cases c : v = x
    · rw [if_pos c, c]
      exact hc
    · rw [if_neg c]
      exact h.ca v ((hv v hm).resolve_right c)
  · rcases hv v hm with q | q
    · exact h.ne v q
    · rw [q]
      exact hn
  · unfold rsUp at e
    by_cases c : v = x
    · rw [if_pos c] at e
      exact hl xs e
    · rw [if_neg c] at e
      exact h.ln v ((hv v hm).resolve_right c) xs e
structure MadeW (H : Hp) (p m a b e : Addr) (us ss es : List V) (rs : V → Option (List V)) (n l : Nat) : Prop where
  np : m ≠ p ∧ a ≠ p ∧ b ≠ p ∧ e ≠ p
  m : H m = some (.tup [.ref a, .ref b, .ref e])
  a : H a = some (.lst us)
  b : H b = some (.lst ss)
  e : H e = some (.lst es)
  ok : ArsOk H p us rs l
  cs : ∀ s ∈ ss, FlatV s
  ce : ∀ s ∈ es, FlatV s
  u1 : 1 ≤ us.length
  ul : us.length ≤ 410
  sl : ss.length ≤ n
  el : es.length ≤ n
/-- what is spoilt stays of its kind -/
def spSpoilt : Sp := fun vs H Q _ => ∃ (p m a b e : Addr) (us ss es : List V) (rs : V → Option (List V)) (c n l : Nat), vs = [.ref p, .ref m] ∧ Src H p c ∧ c ≤ 900000 ∧ MadeW H p m a b e us ss es rs n l ∧ n ≤ 300 ∧ 4 ≤ l ∧ l ≤ 10 ∧
  ∀ (m' a' b' e' : Addr) (us' ss' es' : List V) (rs' : V → Option (List V)) (H' : Hp), MadeW H' p m' a' b' e' us' ss' es' rs' (n + 60) (l + 1) → Go p (c + 10) H H' → Q (.ref m') H'
end Bz

namespace Bz
open PySem PySem.Spec PyProof.Rows L2
/-! ### del xs[n:] of a list -/
theorem keep_front {α : Type} (a : Nat) : ∀ (xs : List α) (b : Nat), ((xs.zipIdx b).filterMap fun p => if (if (1 : Int) > 0 then decide ((a : Int) ≤ ((p.2 : Nat) : Int)) && decide (((p.2 : Nat) : Int) < ((b + xs.length : Nat) : Int)) && (((p.2 : Nat) : Int) - (a : Int)) % 1 == 0 else decide (((b + xs.length : Nat) : Int) < ((p.2 : Nat) : Int)) && decide (((p.2 : Nat) : Int) ≤ (a : Int)) && ((a : Int) - ((p.2 : Nat) : Int)) % (-1) == 0) = true then none else some p.1) = xs.take (a - b)
  | [], b => by simp
  | x :: xs, b => by
    have ih := keep_front a xs (b + 1)
    have e1 : b + (x :: xs).length = b + 1 + xs.length := by rw [List.length_cons]; omega
    rw [e1, List.zipIdx_cons, List.filterMap_cons]
    by_cases c : a ≤ b
    · have c1 : (if (1 : Int) > 0 then decide ((a : Int) ≤ ((b : Nat) : Int)) && decide (((b : Nat) : Int) < ((b + 1 + xs.length : Nat) : Int)) && (((b : Nat) : Int) - (a : Int)) % 1 == 0 else decide (((b + 1 + xs.length : Nat) : Int) < ((b : Nat) : Int)) && decide (((b : Nat) : Int) ≤ (a : Int)) && ((a : Int) - ((b : Nat) : Int)) % (-1) == 0) = true := by
        rw [if_pos (by decide), decide_eq_true (by omega), decide_eq_true (by omega)]
        simp
      dsimp only
      rw [if_pos c1]
      dsimp only
      rw [ih, show a - (b + 1) = 0 from by omega, show a - b = 0 from by omega]
      rfl
    · have c1 : (if (1 : Int) > 0 then decide ((a : Int) ≤ ((b : Nat) : Int)) && decide (((b : Nat) : Int) < ((b + 1 + xs.length : Nat) : Int)) && (((b : Nat) : Int) - (a : Int)) % 1 == 0 else decide (((b + 1 + xs.length : Nat) : Int) < ((b : Nat) : Int)) && decide (((b : Nat) : Int) ≤ (a : Int)) && ((a : Int) - ((b : Nat) : Int)) % (-1) == 0) = false := by
        rw [if_pos (by decide), decide_eq_false (by omega)]
        rfl
      dsimp only
      rw [if_neg (by rw [c1]; exact Bool.false_ne_true)]
      dsimp only
      rw [ih, show a - b = (a - (b + 1)) + 1 from by omega]
      rfl
section
variable {prog : Program} {w : World} {A : Around} {E : Value → Shared → Prop} {s : Shared}
theorem bounds_from {a n : Nat} (ha : a ≤ n) : sliceBounds (some (a : Int)) none none n = ((a : Int), (n : Int), 1) := by
  simp only [sliceBounds, Option.getD_none]
  have h1 : ¬ ((a : Int) < 0) := by omega
  simp only [h1, if_false, show (1 : Int) > 0 by decide, if_true]
  congr 1
  omega
theorem delItem_from {l sl : Addr} {items : Array Value} {n : Nat} {vl : Value} {a : Nat} {Q : Unit → Shared → Prop}
    (e : s.heap.get? l = some { cls := .type "list", data := .seq items n }) (hs : s.heap.IsSliceOf sl vl .none .none) (pl : IsPart vl (some (a : Int))) (ha : a ≤ items.size)
    (hsz : items.size ≤ sizeLine) (h : ∀ f : Array Value → Array Value, f items = (items.toList.take a).toArray → Q () { s with heap := s.heap.update l (Obj.mapSeq f) }) :
    wpAny (model prog w) A (delItem (.ref l) (.ref sl)) Q E s := by
  have hl : s.heap.IsList l items := PySem.IsL.isList e
  obtain ⟨os, hos, hcs, hds⟩ := id hs
  have hTs : s.TypeIs (.ref sl) "slice" := ⟨os, hos, hcs⟩
  have hstep : ¬ ((rawPart none == rawInt 0) = true) := Bool.false_ne_true
  refine wpAny_delItem_slot hl.typeIs (by decide) F.slot_list_delitem (wpAny_call_entry F.slot_list_delitem hl.typeIs F.entry_list_delitem ?_ (F.args_list_delitem_2 _ _))
  show wpAny _ _ (Builtin.List.listSubscript? (.ref sl) >>= _) _ _ s
  refine wpAny_bind ?_
  unfold Builtin.List.listSubscript?
  refine wpAny_bind (wpAny_specialOf hTs slice_no_index ?_)
  simp only [Option.isNone_none, if_true]
  refine wpAny_pure ?_
  show wpAny _ _ (typeOf (.ref sl) >>= _) _ _ s
  refine wpAny_bind (wpAny_typeOf hTs ?_)
  first
    | rw [if_neg (by decide)]
    | refine PySem.W.KFB.if_not (by decide) ?_
  rw [listSliceParts_eq]
  refine wpAny_bind (wpAny_bind (wpAny_field hos hds (x := .none) rfl (wpAny_bind (wpAny_listPart .none ?_))))
  rw [if_neg hstep]
  refine wpAny_bind (wpAny_field hos hds (x := vl) rfl (wpAny_bind (wpAny_listPart pl ?_)))
  refine wpAny_bind (wpAny_field hos hds (x := .none) rfl (wpAny_bind (wpAny_listPart .none (wpAny_pure ?_))))
  refine wpAny_bind (wpAny_bind (wpAny_seqItems e rfl (wpAny_pure ?_)))
  refine wpAny_bind (wpAny_of_eq ((sliceIndices_raw (some (a : Int)) none none items.size (by simp)).trans (congrArg (pure : Int × Int × Int → Sem (Int × Int × Int)) (bounds_from ha))) ?_)
  refine wpAny_bind (wpAny_rule ?_)
  have ef : (List.filterMap (fun p : Value × Nat => if (if (1 : Int) > 0 then decide ((a : Int) ≤ ((p.2 : Nat) : Int)) && decide (((p.2 : Nat) : Int) < ((items.size : Nat) : Int)) && (((p.2 : Nat) : Int) - (a : Int)) % 1 == 0 else decide (((items.size : Nat) : Int) < ((p.2 : Nat) : Int)) && decide (((p.2 : Nat) : Int) ≤ (a : Int)) && ((a : Int) - ((p.2 : Nat) : Int)) % (-1) == 0) = true then none else some p.1) items.toList.zipIdx).toArray = (items.toList.take a).toArray := by
    have q := keep_front a items.toList 0
    rw [Nat.zero_add, Nat.sub_zero, Array.length_toList] at q
    rw [q]
  refine wpAny_bind (wpAny_updateSeq (hz := hsz) (_hz' := ?_) e rfl ?_)
  rotate_left
  · refine Nat.le_succ_of_le (Nat.le_trans (Nat.le_of_eq (congrArg Array.size ef)) ?_)
    rw [List.size_toArray, List.length_take, Array.length_toList]
    omega
  · refine wpAny_bind (wpAny_letGo ?_)
    exact wpAny_pure ⟨.none, rfl, h _ ef⟩
end
/-- del xs[e:] -/
def tDelS (to : TE) (tp : TO) : TS := fun D σ H => to σ H fun x H1 => tp σ H1 fun o H2 => ∃ (l : Addr) (xs : List V) (i : Nat), x = .ref l ∧ o = some (i : Int) ∧ H2 l = some (.lst xs) ∧ i ≤ xs.length ∧ D.nx σ (upd H2 l (.lst (xs.take i)))
theorem ps_delS {X : Cx} {o i : Expr} {to : TE} {tp : TO} {p2 tpos pos : Pos} (ho : PE X o to) (hi : PO X (some i) tp) : PS X (.Delete [.Subscript o (.Slice (some i) none none p2) tpos] pos) (tDelS to tp) := by
  refine ⟨fun pins s σ H D I h => ?_⟩
  refine wpAny_Delete (wpAny_deleteEach_cons (wpAny_delete_Subscript (thn (ho.run pins s σ H _ I h) fun u s1 ⟨x, H1, I1, rx, q1⟩ => ?_)))
  refine wpAny_Slice (thn (hi.run pins s1 σ H1 _ I1 q1) fun vl s2 ⟨k, H2, I2, pl, q2⟩ => ?_)
  rw [evalPart_none]
  refine wpAny_pure ?_
  refine wpAny_pure ?_
  obtain ⟨l, xs, n, rfl, rfl, hH, hn, q⟩ := q2
  obtain rfl : u = Value.ref l := rx
  have I4 : Inv X pins σ H2 { s2 with heap := s2.heap.push { cls := .type "slice", data := .fields #[vl, .none, .none] } } := I2.kept (t' := s2.toks) fun b ob q => Heap.get?_push_of_some _ q
  obtain ⟨z, its, m, r, hl, e⟩ := I4.lstM hH
  refine delItem_from (a := n) e (Heap.IsSliceOf.new ..) pl (by rw [List.size_toArray]; omega) (by rw [List.size_toArray]; omega) fun f hf => ?_
  refine wpAny_deleteEach_nil ⟨σ, _, I4.lset (its' := its.take n) (t' := s2.toks) hH e ?_ (r.take n) ?_, q⟩
  · rw [hf]
  · rw [List.length_take]
    omega
/-! ### one function by two names -/
theorem keeps_alias {P : Program} {w : World} {K : PySem.W.Frag} {mg : PySem.Str → Option Value} {base : Heap} {CX : CXT} {k : Nat} {x y : PySem.Str} {ps : List PySem.Str} {sp : Sp} (F : Keeps P w K mg base CX k x ps sp) (e : mg y = mg x) : Keeps P w K mg base CX k y ps sp := by
  obtain ⟨f, fd, F, m, kp, b⟩ := F.ex
  exact ⟨f, fd, F, e.trans m, kp, b⟩
/-! ### a method with one default -/
structure MethAtD (K : PySem.W.Frag) (C : Addr) (m qual : PySem.Str) (st : Stmt) (ps : List PySem.Str) (dv : V) : Prop where
  ex : ∃ f fd, Meth K C m f ∧ FunD K m qual (defArgs st) (defBody st) (defScope st) [dv] [] f fd
structure KeepsMD (P : Program) (w : World) (K : PySem.W.Frag) (mg : PySem.Str → Option Value) (base : Heap) (C : Addr) (k : Nat) (m : PySem.Str) (ps : List PySem.Str) (dv : V) (sp : Sp) : Prop where
  ex : ∃ f fd, Meth K C m f ∧ FnOk P w K mg base CX0 k f fd ps sp ∧ Binds K fd ps [] ∧ ∃ ds, Vals [dv] ds ∧ Binds K fd ps ds
section
variable {P : Program} {w : World} {K : PySem.W.Frag} {mg : PySem.Str → Option Value} {base : Heap} {C : Addr} {k : Nat} {m qual : PySem.Str} {sp : Sp} {st : Stmt} {N ps : List PySem.Str} {dv : V}
theorem KeepsMD.toM (F : KeepsMD P w K mg base C k m ps dv sp) : KeepsM P w K mg base CX0 C k m ps sp := by
  obtain ⟨f, fd, M, G, b, _⟩ := F.ex
  exact ⟨f, fd, M, G, b⟩
theorem keepsMD (D : MethAtD K C m qual st ps dv) (S : FnScope N ps (defScope st)) (len : ∀ vs H Q E, sp vs H Q E → vs.length = ps.length)
    (h1 : ∀ (T : Addr) (kV doc pm : Value) (an : Option Addr) (cdv ct : Value) (us its : List Value), us.length = ps.length → its.length = 1 →
      ∃ k, bindArgs (PySem.W.fnOf m qual (defArgs st) (defBody st) (defScope st) (.ref T) kV doc pm an cdv ct) ⟨us, []⟩ = seqItems? (.ref T) >>= k ∧ k (some its.toArray) = pure (ps.zip (us ++ its.drop 1)))
    (h0 : ∀ (T : Addr) (kV doc pm : Value) (an : Option Addr) (cdv ct : Value) (us its : List Value), us.length + 1 = ps.length → its.length = 1 →
      ∃ k, bindArgs (PySem.W.fnOf m qual (defArgs st) (defBody st) (defScope st) (.ref T) kV doc pm an cdv ct) ⟨us, []⟩ = seqItems? (.ref T) >>= k ∧ k (some its.toArray) = pure (ps.zip (us ++ its.drop 0)))
    (hp : 1 ≤ ps.length)
    (hbody : ∀ (f : Addr) (cdv : Value) (A : Around) (outer : List Env) (s : Shared) (H : Hp) (vs : List V) (Q : VK) (E : XK), Room k (A.deeper (envOfC qual (defScope st) s.heap.objs.size f cdv)) → sp vs H Q E →
      ∃ t, PSs (cxOf CX0 P w K mg base N qual (defScope st) f cdv A outer s H E).nox (defBody st) t ∧ t { nx := fun _ H' => Q .non H', rt := Q } (start N vs) H) : KeepsMD P w K mg base C (k + 1) m ps dv sp := by
  obtain ⟨f, fd, M, F⟩ := D.ex
  obtain ⟨ds1, r1, b1⟩ := F.binds1 ps.length 1 (by simp) (by simp) (fun T kV doc pm an cdv ct us its hu hi => h1 T kV doc pm an cdv ct us its hu hi)
  obtain ⟨ds0, r0, b0⟩ := F.binds1 (ps.length - 1) 0 (by simp) (by simp; omega) (fun T kV doc pm an cdv ct us its hu hi => h0 T kV doc pm an cdv ct us its (by omega) hi)
  refine ⟨f, fd, M, F.ok S len fun cdv A outer s H vs Q E hr hsp => ?_, ?_, ds0, r0, b0⟩
  · obtain ⟨t, h, q⟩ := hbody f cdv A outer s H vs Q E hr hsp
    exact ⟨t, h.nox, q⟩
  · cases r1
    exact b1
end
theorem pe_mt0D {X : Cx} {C : Addr} {k j : Nat} {m : PySem.Str} {ps : List PySem.Str} {dv : V} {sp : Sp} {o : Expr} {ta : TE} {apos pos : Pos} {pl : Sem Bool} (c : Cls X.K C) (F : KeepsMD X.prog X.w X.K X.mg X.base C k m ps dv sp) (hr : Room j X.A) (he : PE X o ta) (hj : k ≤ j := by decide)
    (ht : eval (.Call (.Attribute o m apos) [] [] pos) X.env = (do
      let ov ← eval o X.env
      standAt apos.atName
      let (f, first) ← holding [ov] (getMethod ov m pl)
      callWith pos f first (backTo pos (starEach [] X.env)) (backToKw pos (keywordEach [] X.env))) := by rfl) :
    PE X (.Call (.Attribute o m apos) [] [] pos) (tMeth C m sp [dv] E0 ta tNil) := by
  obtain ⟨f, fd, M, G, _, ds, rd, b⟩ := F.ex
  exact pe_meth0 he c M G (hr.mono hj) b rd pass0 ht
/-! ### meters -/
def mtf (m mvd L : Addr) (row : PySem.Str) : List (PySem.Str × V) := [(("held_machine" : PySem.Str), V.ref m), (("held_moves" : PySem.Str), V.ref mvd), (("held_row" : PySem.Str), V.str row), (("held_prices" : PySem.Str), V.ref L)]
theorem mtf1 (m mvd L : Addr) (row : PySem.Str) : (mtf m mvd L row).lookup ("held_machine" : PySem.Str) = some (.ref m) := look_eq
theorem mtf2 (m mvd L : Addr) (row : PySem.Str) : (mtf m mvd L row).lookup ("held_moves" : PySem.Str) = some (.ref mvd) := (look_ne (by decide +kernel)).trans look_eq
theorem mtf3 (m mvd L : Addr) (row : PySem.Str) : (mtf m mvd L row).lookup ("held_row" : PySem.Str) = some (.str row) := (look_ne (by decide +kernel)).trans ((look_ne (by decide +kernel)).trans look_eq)
theorem mtf4 (m mvd L : Addr) (row : PySem.Str) : (mtf m mvd L row).lookup ("held_prices" : PySem.Str) = some (.ref L) := (look_ne (by decide +kernel)).trans ((look_ne (by decide +kernel)).trans ((look_ne (by decide +kernel)).trans look_eq))
/-- the prices behind each beginning of the row -/
def DsOk (M : MachV) (H : Hp) (row : PySem.Str) (us : List V) : Prop := us.length = (sgnL row).length + 1 ∧ ∀ (i : Nat) (u : V), us[i]? = some u → ∃ (d : Addr) (kvs : List (Ky × V)) (f : PySem.Str → Option Int), u = .ref d ∧ H d = some (.dK kvs) ∧ Holds1 kvs f ∧ ∀ q, LeastO (Rch M.ars M.sts ((sgnL row).take i) q) (f q)
structure MetAt (K : PySem.W.Frag) (C CM : Addr) (H : Hp) (t m L : Addr) (M : MachV) (row : PySem.Str) : Prop where
  ex : ∃ (dx mvd : Addr) (kvm : List (Ky × V)) (us : List V), H t = some (.ins CM dx (mtf m mvd L row)) ∧ H mvd = some (.dK kvm) ∧ Moves K M.ars H kvm ∧ H L = some (.lst us) ∧ DsOk M H row us
/-- what may be changed: an instance, a list that does not hold tuples alone -/
def Bad (H : Hp) (b : Addr) : Prop := (∃ C dx fs, H b = some (.ins C dx fs)) ∨ ∃ us v, H b = some (.lst us) ∧ v ∈ us ∧ ∀ q, v = .ref q → ∀ ys, H q ≠ some (.tup ys)
theorem MetAt.badL {K : PySem.W.Frag} {C CM : Addr} {H : Hp} {t m L : Addr} {M : MachV} {row : PySem.Str} (h : MetAt K C CM H t m L M row) : Bad H L := by
  obtain ⟨dx, mvd, kvm, us, h1, h2, h3, h4, h5, h6⟩ := h.ex
  obtain ⟨u, hu⟩ : ∃ u, us[0]? = some u := ⟨_, List.getElem?_eq_getElem (by omega)⟩
  obtain ⟨d, kvs, f, e, hd, _⟩ := h6 0 u hu
  refine .inr ⟨us, u, h4, List.mem_of_getElem? hu, fun q e' ys z => ?_⟩
  rw [e] at e'
  rw [← V.ref.inj e', hd] at z
  cases z
theorem MetAt.badT {K : PySem.W.Frag} {C CM : Addr} {H : Hp} {t m L : Addr} {M : MachV} {row : PySem.Str} (h : MetAt K C CM H t m L M row) : Bad H t := by
  obtain ⟨dx, mvd, kvm, us, h1, _⟩ := h.ex
  exact .inl ⟨_, _, _, h1⟩
theorem Src.bad {H : Hp} {p : Addr} {c : Nat} (h : Src H p c) : Bad H p := by
  obtain ⟨g, s, k, e, _⟩ := h
  exact .inr ⟨_, .int g, e, List.mem_cons_self .., fun q e => by cases e⟩
theorem bad_dK {H : Hp} {b : Addr} {kvs : List (Ky × V)} (h : Bad H b) : H b ≠ some (.dK kvs) := fun e => by
  rcases h with ⟨_, _, _, z⟩ | ⟨_, _, z, _⟩ <;> rw [e] at z <;> cases z
theorem bad_tup {H : Hp} {b : Addr} {xs : List V} (h : Bad H b) : H b ≠ some (.tup xs) := fun e => by
  rcases h with ⟨_, _, _, z⟩ | ⟨_, _, z, _⟩ <;> rw [e] at z <;> cases z
theorem bad_fz {H : Hp} {b : Addr} {xs : List V} (h : Bad H b) : ¬ FzT H b xs := fun ⟨u, e, z⟩ => by
  rcases h with ⟨_, _, _, z'⟩ | ⟨_, _, z', _⟩
  · rw [e] at z'
    exact z.nins _ _ _ (Option.some.inj z')
  · rw [e] at z'
    exact z.nlst _ (Option.some.inj z')
theorem MvS.mem {H : Hp} {us : List V} {mv : List Mv} (h : MvS H us mv) : ∀ u ∈ us, ∃ q ys, u = .ref q ∧ H q = some (.tup ys) := by
  induction h with
  | nil => intro u hu; cases hu
  | cons a _ ih =>
    intro u hu
    rcases List.mem_cons.mp hu with e | hu
    · rw [e]
      obtain ⟨q, e1, e2⟩ := a
      exact ⟨q, _, e1, e2⟩
    · exact ih u hu
section
variable {K : PySem.W.Frag} {C CM : Addr} {H H' : Hp} {B : Addr → Prop}
theorem moves_keep {xs : List Arw} {kvs : List (Ky × V)} (h : Moves K xs H kvs) (k : ∀ q o, ¬ B q → H q = some o → H' q = some o) (bad : ∀ b, B b → Bad H b) : Moves K xs H' kvs := by
  intro l
  rcases h l with z | ⟨q, us, e, hq, hm⟩
  · exact .inl z
  · refine .inr ⟨q, us, e, ?_, Paired.mapP hm fun v x ⟨t, e1, e2⟩ => ⟨t, e1, k _ _ (fun b => bad_tup (bad _ b) e2) e2⟩⟩
    rcases hq with hq | hq
    · refine .inl ?_
      rcases hq with hq | ⟨o, hq⟩
      · refine .inl (k _ _ (fun b => ?_) hq)
        rcases bad _ b with ⟨_, _, _, z⟩ | ⟨ws, v, z, hv, nt⟩
        · rw [hq] at z
          cases z
        · rw [hq] at z
          cases z
          obtain ⟨t, ys, e1, e2⟩ := hm.mem v hv
          exact nt t e1 ys e2
      · refine .inr ⟨o, k _ _ (fun b => ?_) hq⟩
        rcases bad _ b with ⟨_, _, _, z⟩ | ⟨ws, v, z, _⟩ <;> rw [hq] at z <;> cases z
    · exact .inr hq
theorem mach_keep {m : Addr} {M : MachV} (h : IsMach C H m M) (k : ∀ q o, ¬ B q → H q = some o → H' q = some o) (bad : ∀ b, B b → Bad H b) (nm : ¬ B m) : IsMach C H' m M := by
  obtain ⟨dx, t1, t2, t3, t4, t5, ws, hI⟩ := h
  have fz : ∀ {a : Addr} {xs : List V}, FzT H a xs → FzT H' a xs := fun {a xs} ⟨u, e, z⟩ => ⟨u, k _ _ (fun b => bad_fz (bad _ b) ⟨u, e, z⟩) e, z⟩
  exact ⟨dx, t1, t2, t3, t4, t5, ws, ⟨k _ _ nm hI.ins, k _ _ (fun b => bad_tup (bad _ b) hI.a1) hI.a1, Paired.mapP hI.as fun v x ⟨t, e1, e2⟩ => ⟨t, e1, k _ _ (fun b => bad_tup (bad _ b) e2) e2⟩, fz hI.a2, fz hI.a3, fz hI.a4, fz hI.a5⟩⟩
theorem MetAt.keep {t m L : Addr} {M : MachV} {row : PySem.Str} (h : MetAt K C CM H t m L M row) (k : ∀ q o, ¬ B q → H q = some o → H' q = some o) (bad : ∀ b, B b → Bad H b) (nt : ¬ B t) (nL : ¬ B L) : MetAt K C CM H' t m L M row := by
  obtain ⟨dx, mvd, kvm, us, h1, h2, h3, h4, h5, h6⟩ := h.ex
  refine ⟨dx, mvd, kvm, us, k _ _ nt h1, k _ _ (fun b => bad_dK (bad _ b) h2) h2, moves_keep h3 k bad, k _ _ nL h4, h5, fun i u hu => ?_⟩
  obtain ⟨d, kvs, f, e, hd, r⟩ := h6 i u hu
  exact ⟨d, kvs, f, e, k _ _ (fun b => bad_dK (bad _ b) hd) hd, r⟩
theorem MetAt.same {t m L : Addr} {M : MachV} {row : PySem.Str} (h : MetAt K C CM H t m L M row) (s : Same H H') : MetAt K C CM H' t m L M row :=
  h.keep (B := fun _ => False) (fun q o _ e => s q o e) (fun b z => z.elim) (fun z => z) (fun z => z)
end
/-! ### promises -/
def spMetInit (K : PySem.W.Frag) (C CM : Addr) : Sp := fun vs H Q _ => ∃ (t dx m : Addr) (M : MachV), vs = [.ref t, .ref m] ∧ H t = some (.ins CM dx []) ∧ IsMach C H m M ∧ MGood M ∧
  ∀ (L : Addr) (H' : Hp), MetAt K C CM H' t m L M "" → H L = none → (∀ q o, q ≠ t → H q = some o → H' q = some o) → Q .non H'
def spMetBest (K : PySem.W.Frag) (C CM : Addr) : Sp := fun vs H Q _ => ∃ (t m L : Addr) (M : MachV) (row : PySem.Str), vs = [.ref t] ∧ MetAt K C CM H t m L M row ∧ IsMach C H m M ∧ MGood M ∧ RowOk row ∧
  (∀ H', (∀ s ∈ M.sts, Rest M.ars M.ens (sgnL row) s none) → Same H H' → Q .non H') ∧
  ∀ (run : List PySem.Str) (t : Addr) (H' : Hp), BestR M.ars M.sts M.ens (sgnL row) run → H' t = some (.tup (run.map V.str)) → Same H H' → Q (.ref t) H'
def spMetPrice (K : PySem.W.Frag) (C CM : Addr) : Sp := fun vs H Q _ => ∃ (t m L : Addr) (M : MachV) (row : PySem.Str), vs = [.ref t] ∧ MetAt K C CM H t m L M row ∧ IsMach C H m M ∧ MGood M ∧
  ∀ (o : Option Int) (H' : Hp), LeastO (fun n => ∃ e ∈ M.ens, Rch M.ars M.sts (sgnL row) e n) o → Same H H' → Q (optV o) H'
def spMetPrices (K : PySem.W.Frag) (C CM : Addr) : Sp := fun vs H Q _ => ∃ (t m L : Addr) (M : MachV) (row : PySem.Str), vs = [.ref t] ∧ MetAt K C CM H t m L M row ∧ IsMach C H m M ∧ Asc M.sta ∧ M.sta.length ≤ 500 ∧
  ∀ (d : Addr) (f : PySem.Str → Option Int) (H' : Hp), H d = none → (∀ q, LeastO (Rch M.ars M.sts (sgnL row) q) (f q)) → H' d = some (.dK (M.sta.map fun s => (.inr s, optV (f s)))) → Same H H' → Q (.ref d) H'
def spMetRead (K : PySem.W.Frag) (C CM : Addr) : Sp := fun vs H Q _ => ∃ (t m L : Addr) (M : MachV) (row more : PySem.Str), vs = [.ref t, .str more] ∧ MetAt K C CM H t m L M row ∧ IsMach C H m M ∧ MGood M ∧ m ≠ t ∧ RowOk more ∧ row.length + more.length ≤ 5000 ∧
  ∀ H', MetAt K C CM H' t m L M (row ++ more) → (∀ q o, q ≠ t → q ≠ L → H q = some o → H' q = some o) → Q .non H'
def spMetUndo (K : PySem.W.Frag) (C CM : Addr) : Sp := fun vs H Q _ => ∃ (t m L : Addr) (M : MachV) (row : PySem.Str) (n : Nat), vs = [.ref t, .int (n : Nat)] ∧ MetAt K C CM H t m L M row ∧ n ≤ row.length ∧ row.length ≤ 5000 ∧
  ∀ H', MetAt K C CM H' t m L M (cutS row none (some ((row.length : Nat) - (n : Nat) : Int))) → (∀ q o, q ≠ t → q ≠ L → H q = some o → H' q = some o) → Q .non H'
theorem mput0 (v : V) : putF "held_machine" v [] = [(("held_machine" : PySem.Str), v)] := rfl
theorem mput1 (a v : V) : putF "held_moves" v [(("held_machine" : PySem.Str), a)] = [(("held_machine" : PySem.Str), a), (("held_moves" : PySem.Str), v)] := by
  unfold putF
  rw [if_neg (by decide +kernel)]
  rfl
theorem mput2 (a b v : V) : putF "held_row" v [(("held_machine" : PySem.Str), a), (("held_moves" : PySem.Str), b)] = [(("held_machine" : PySem.Str), a), (("held_moves" : PySem.Str), b), (("held_row" : PySem.Str), v)] := by
  unfold putF
  rw [if_neg (by decide +kernel)]
  unfold putF
  rw [if_neg (by decide +kernel)]
  rfl
theorem mput3 (a b c v : V) : putF "held_prices" v [(("held_machine" : PySem.Str), a), (("held_moves" : PySem.Str), b), (("held_row" : PySem.Str), c)] = [(("held_machine" : PySem.Str), a), (("held_moves" : PySem.Str), b), (("held_row" : PySem.Str), c), (("held_prices" : PySem.Str), v)] := by
  unfold putF
  rw [if_neg (by decide +kernel)]
  unfold putF
  rw [if_neg (by decide +kernel)]
  unfold putF
  rw [if_neg (by decide +kernel)]
  rfl
theorem mputR (m mvd L : Addr) (row z : PySem.Str) : putF "held_row" (.str z) (mtf m mvd L row) = mtf m mvd L z := by
  unfold mtf putF
  rw [if_neg (by decide +kernel)]
  unfold putF
  rw [if_neg (by decide +kernel)]
  unfold putF
  rw [if_pos rfl]
theorem kfld (K : PySem.W.Frag) {X : Cx} {e : Expr} {f : PySem.Str} {pos : Pos} {ta : TE} (he : PE X e ta) (hb : attributeBase e f X.env (eval e X.env) = eval e X.env := by rfl) (h : X.K = K := by rfl) : PE X (.Attribute e f pos) (tFld K ta f) := by
  subst h
  exact pe_fld he hb
/-! ### the prices state by state -/
def PrT (xs : List Arw) (ss : List PySem.Str) (row : PySem.Str) (H : Hp) (ws : List V) (os : List PySem.Str) : Prop := Paired (fun v s => ∃ (t : Addr) (o : Option Int), v = V.ref t ∧ H t = some (.tup [.str s, optV o]) ∧ LPr xs ss [s] (sgnL row) o) ws os
def prD (f : PySem.Str → Option Int) (os : List PySem.Str) : List PyData := os.map fun s => .tuple [.str s, optD (f s)]
theorem dp_opt {K : PySem.W.Frag} {H : Hp} (o : Option Int) : Dp K H (optV o) (optD o) := by
  cases o with
  | none => exact .non
  | some n => exact .int n
theorem dp_prT {K : PySem.W.Frag} {H : Hp} {xs : List Arw} {ss : List PySem.Str} {row : PySem.Str} {f : PySem.Str → Option Int} {ws : List V} {os : List PySem.Str} (h : PrT xs ss row H ws os) (hf : ∀ s ∈ os, ∀ o, LPr xs ss [s] (sgnL row) o → o = f s) : DpAll K H ws (prD f os) := by
  induction h with
  | nil => exact .nil
  | cons a r ih =>
    obtain ⟨t, o, rfl, ht, ho⟩ := a
    have e := hf _ (List.mem_cons_self ..) o ho
    refine .cons (.tup (SqT.of ht) (.cons (.str _) (.cons ?_ .nil))) (ih fun s hs => hf s (List.mem_cons_of_mem _ hs))
    rw [← e]
    exact dp_opt o
theorem dp_items {K : PySem.W.Frag} {H : Hp} {f : PySem.Str → Option Int} : ∀ {ts : List Addr} {os : List PySem.Str}, Paired (fun (t : Addr) (q : Key × V) => H t = some (.tup [kV q.1, q.2])) ts (os.map fun s => (.inr s, optV (f s))) → DpAll K H (ts.map V.ref) (prD f os)
  | [], [], .nil => .nil
  | t :: ts, s :: os, .cons a r => .cons (.tup (SqT.of a) (.cons (.str _) (.cons (dp_opt _) .nil))) (dp_items r)
theorem Lay.opt {o : Option Int} {n : Nat} : Lay (optD o) n := by cases o <;> first | exact .non | exact .int
theorem Lay.prD {f : PySem.Str → Option Int} {os : List PySem.Str} (h : ∀ s ∈ os, Nm s) : Lay (.list (prD f os)) 2 := by
  refine (LayAll.map fun s hs => ?_).lst
  exact LayAll.tup (n := 0) (.cons (.str (asci_nm (h s hs))) (.cons .opt .nil))
theorem eqv_prD (f : PySem.Str → Option Int) (os : List PySem.Str) : PyData.eqv (.list (prD f os)) (.list (prD f os)) = true := by
  simp only [PyData.eqv]
  unfold prD
  induction os with
  | nil => simp [PyData.eqvAll]
  | cons s os ih =>
    have e : PyData.eqv (optD (f s)) (optD (f s)) = true := by cases f s <;> simp [optD, PyData.eqv]
    simp [PyData.eqvAll, PyData.eqv, ih, e]
def spLPricesM (K : PySem.W.Frag) : Sp := fun vs H Q _ => ∃ (m a b e : Addr) (us : List V) (xs : List Arw) (ss es : List PySem.Str) (row : PySem.Str), vs = [.ref m, .str row] ∧ MadeL K H m a b e us xs ss es ∧ H b = some (.lst (ss.map V.str)) ∧ H e = some (.lst (es.map V.str)) ∧ ss.length + es.length + 2 * xs.length < 64 ∧ row.length ≤ 5000 ∧
  ∀ (q : Addr) (ws : List V) (os : List PySem.Str) (H' : Hp), H q = none → H' q = some (.lst ws) → PrT xs ss row H' ws os → (∀ k, k ∈ os ↔ (k ∈ ss ∨ k ∈ es ∨ ∃ x ∈ xs, k = x.s ∨ k = x.t)) → Asc os → Same H H' → Q (.ref q) H'
def spIsRight (K : PySem.W.Frag) (C CM : Addr) : Sp := fun vs H Q _ => ∃ (q a b e x t L : Addr) (us : List V) (xs : List Arw) (ss es : List PySem.Str) (M : MachV) (row : PySem.Str), vs = [.ref q, .ref x, .ref t, .str row] ∧ MadeL K H q a b e us xs ss es ∧ H b = some (.lst (ss.map V.str)) ∧ H e = some (.lst (es.map V.str)) ∧ ss.length + es.length + 2 * xs.length < 64 ∧
  IsMach C H x M ∧ MOf M xs ss es ∧ MFine M ∧ MGood M ∧ MetAt K C CM H t x L M row ∧ RowOk row ∧ ∀ H', Same H H' → Q (.bl true) H'
end Bz

namespace Bz
open PySem PySem.Spec PyProof.Rows L2
/-! ### repr of nested values, where no repr runs yet -/
def rRepr (K : PySem.W.Frag) : List V → Hp → VK → Prop := fun xs H Q => ∃ (v : V) (d : PyData), xs = [v] ∧ Dp K H v d ∧ d.showable = true ∧ d.hasDict = false ∧ d.depth ≤ 20 ∧ d.shown.length ≤ sizeLine ∧ Q (.str d.shown) H
theorem call_reprD {X : Cx} (hg : X.A.guards = some []) (hu : X.A.units + 50 < cLine) : CallR X (.builtin "repr") (rRepr X.K) := by
  intro pins s σ H xs us Q I r h
  obtain ⟨v, d, rfl, hd, sh, nd, dp, sz, q⟩ := h
  obtain ⟨u, rfl, ru⟩ := vals1 r
  obtain ⟨as, hR⟩ := Dp.reads I d v u hd ru
  cases hR with
  | none => exact PySem.P.repr_of_none ⟨.str _, H, I.tok _, ⟨_, rfl⟩, q⟩
  | bool b => exact PySem.P.repr_of_bool ⟨.str _, H, I.tok _, ⟨_, rfl⟩, q⟩
  | int i t => exact PySem.P.repr_of_int (of_decide_eq_true sh) ⟨.str _, H, I.tok _, ⟨_, rfl⟩, q⟩
  | str x t => exact PySem.P.repr_of_str ⟨.str _, H, I.tok _, ⟨_, rfl⟩, q⟩ sz
  | list h1 h2 h3 h4 =>
    exact PySem.repr_of_reads' (.list h1 h2 h3 h4) sh (PyData.noDict_hsm nd) hg (by omega) (fun b o e => e) (fun h' u tk hk => ⟨.str _, H, I.kept hk, ⟨_, rfl⟩, q⟩) sz
  | tuple h1 h2 h3 h4 =>
    exact PySem.repr_of_reads' (.tuple h1 h2 h3 h4) sh (PyData.noDict_hsm nd) hg (by omega) (fun b o e => e) (fun h' u tk hk => ⟨.str _, H, I.kept hk, ⟨_, rfl⟩, q⟩) sz
  | dict => cases nd
theorem kreprD (K : PySem.W.Frag) {X : Cx} (hg : X.A.guards = some []) (hu : X.A.units + 64 < cLine) (h : X.K = K := by rfl) : CallR X (.builtin "repr") (rRepr K) := by
  subst h
  exact call_reprD hg (by omega)
/-! ### in, not in, over nested values -/
theorem kinD (K : PySem.W.Frag) {X : Cx} {k : Nat} (hr : Room k X.A) (h : X.K = K := by rfl) : OpR X (compareOp .In) (L2.rInD K) := by
  subst h
  exact L2.op_inD (by have := hr.un; omega)
theorem knotInD (K : PySem.W.Frag) {X : Cx} {k : Nat} (hr : Room k X.A) (h : X.K = K := by rfl) : OpR X (compareOp .NotIn) (L2.rNotInD K) := by
  subst h
  exact L2.op_notInD (by have := hr.un; omega)
/-! ### defs that run where no repr runs yet -/
structure FnOkG (P : Program) (w : World) (K : PySem.W.Frag) (mg : PySem.Str → Option Value) (base : Heap) (k : Nat) (f : Addr) (fd : FuncData) (ps : List PySem.Str) (sp : Sp) : Prop where
  len : ∀ vs H Q E, sp vs H Q E → vs.length = ps.length
  run : ∀ (A : Around) (outer : List Env) (s : Shared) (H : Hp) (args : Args) (us : List Value) (vs : List V) (Q : VK) (E : XK), A.guards = some [] → Room k A → Env0 P w K mg base A outer s H → BindsTo s fd args (ps.zip us) → Vals vs us → sp vs H Q E →
    codeAny (model P w) A (.call (.ref f) args) (CR CX0 outer P w H s Q E) s
section
variable {P : Program} {w : World} {K : PySem.W.Frag} {mg : PySem.Str → Option Value} {base : Heap}
theorem okG {x qual : PySem.Str} {st : Stmt} {f : Addr} {fd : FuncData} {N ps : List PySem.Str} {k : Nat} {sp : Sp} (F : Fun K x qual st f fd) (S : FnScope N ps (defScope st)) (len : ∀ vs H Q E, sp vs H Q E → vs.length = ps.length)
    (hbody : ∀ (cdv : Value) (A : Around) (outer : List Env) (s : Shared) (H : Hp) (vs : List V) (Q : VK) (E : XK), (A.deeper (envOfC qual (defScope st) s.heap.objs.size f cdv)).guards = some [] → Room k (A.deeper (envOfC qual (defScope st) s.heap.objs.size f cdv)) → sp vs H Q E →
      ∃ t, PSs (cxOf CX0 P w K mg base N qual (defScope st) f cdv A outer s H E).nox (defBody st) t ∧ t { nx := fun _ H' => Q .non H', rt := Q } (start N vs) H) : FnOkG P w K mg base (k + 1) f fd ps sp := by
  obtain ⟨oc, od, kV, doc, pm, an, cdv, ct, osl, rfl, lk, hcd⟩ := F.ex
  refine ⟨len, fun A outer s H args us vs Q E hg hr e0 hb r hs => LamX.run_ofS (CX := CX0) lk hcd S hr e0 hb r (len _ _ _ _ hs) fun hr' => ?_⟩
  obtain ⟨t, h, q⟩ := hbody cdv A outer s H vs Q E hg hr' hs
  exact ⟨t, h.nox, q⟩
/-- a def of the module, by its name -/
structure KeepsG (P : Program) (w : World) (K : PySem.W.Frag) (mg : PySem.Str → Option Value) (base : Heap) (k : Nat) (x : PySem.Str) (ps : List PySem.Str) (sp : Sp) : Prop where
  ex : ∃ (f : Addr) (fd : FuncData), FnOkG P w K mg base k f fd ps sp ∧ mg x = some (.ref f) ∧ PySem.W.keepIn K (.ref f) = true ∧ Binds K fd ps []
end
section
variable {X : Cx} {k : Nat} {x : PySem.Str} {ps : List PySem.Str} {sp : Sp} {e : Expr} {es : List Expr} {p pos : Pos} {t : TA}
theorem pe_ownG {j : Nat} (F : KeepsG X.prog X.w X.K X.mg X.base k x ps sp) (hG : X.A.guards = some []) (hr : Room j X.A) (ha : PA X (e :: es) t) (hj : k ≤ j := by decide) (hg : Gl X x := by rfl)
    (hdb : (x == ("__debug__" : PySem.Str)) = false := by decide) (he : starEach (e :: es) X.env = (false, eval e X.env) :: starEach es X.env := by rfl) (hpl : (backTo pos (starEach es X.env)).any (·.1) = false := by rfl) :
    PE X (.Call (.Name x p) (e :: es) [] pos) (tCall sp [] E0 t) := by
  obtain ⟨f, fd, F, m, kp, b⟩ := F.ex
  refine ⟨fun pins s σ H Q I h => wpAny_Call_Name_kw (ld_glob I hg m ?_ hdb)⟩
  refine PySem.W.callWith_K (h₀ := X.base) I.ok.mod.kin kp (thn (ha.run pos pins s σ H _ I h) fun us s1 ⟨vs, H1, I1, r, q⟩ => ⟨I1.kIn, ?_⟩) he hpl
  have q : sp vs H1 Q E0 := by
    have q' : sp (vs ++ []) H1 Q E0 := q
    rw [List.append_nil] at q'
    exact q'
  have hl : (us ++ []).length = ps.length := by
    rw [List.append_nil, ← r.length]
    exact F.len _ _ _ _ q
  have bt := b s1 us I1.kIn hl
  rw [List.append_nil] at bt
  refine wpAny_call (codeAny_mono (F.run X.A X.stack s1 H1 ⟨us, []⟩ us vs Q E0 hG (hr.mono hj) I1.env0 bt r q) fun r2 s' hq => ?_)
  cases r2 with
  | error e => exact False.elim hq
  | ok fl =>
    cases fl with
    | ret u => exact I1.after hq
    | next => exact False.elim hq
    | brk => exact False.elim hq
    | cont => exact False.elim hq
end
end Bz

namespace Bz
open PySem PySem.Spec PyProof.Rows L2
/-! ### the end of a law that shows values: its def runs where no repr runs yet -/
theorem law_callG {P : Program} {w : World} {K : PySem.W.Frag} {mg mb : PySem.Str → Option Value} {k : Nat} {fa a : Addr} {fd : FuncData} {x : PySem.Str} {sp : Sp} {z : Shared} {vs : List Value} {ns : List Int}
    (inK : K.In z.heap) (nsG : z.heap.Ns mainGlobals mg) (nsB : z.heap.Ns builtinsNs mb) (boot : ∀ x : PySem.Str, x ≠ "__name__" → mb x = bootBuiltins x) (nolim : z.heap.NoLimit) (nogen : z.gens = #[])
    (at_a : z.heap.get? a = some { cls := .type "list", data := .seq vs.toArray }) (whole : IntsAre vs ns) (le : ns.length ≤ sizeLine) (room : Room k callerA)
    (F : ∀ base : Heap, K.In base → base.Ns mainGlobals mg → FnOkG P w K mg base k fa fd [x] sp) (bind : ∀ (s : Shared) (u : Value), BindsTo s fd ⟨[u], []⟩ [(x, u)])
    (told : ∀ H : Hp, Only H → SqL K H a (ns.map V.int) → sp [.ref a] H (fun v _ => v = .bl true) E0) :
    codeAny (model P w) callerA (.call (.ref fa) ⟨[.ref a], []⟩) (fun r s' => r = .ok (.ret (.bool true)) ∧ OldK z.heap s'.heap ∧ s'.os = z.os ∧ AllBare s'.gens) z := by
  have isI := vals_ints whole
  have sameL := whole.length
  suffices go : ∀ H : Hp, (∀ b u, H b = some u → b = a ∧ K.lookup a = none ∧ ∃ o xs, u = .frz o (.lst xs)) → SqL K H a (ns.map V.int) → HOk P w H z.heap →
      codeAny (model P w) callerA (.call (.ref fa) ⟨[.ref a], []⟩) (fun r s' => r = .ok (.ret (.bool true)) ∧ OldK z.heap s'.heap ∧ s'.os = z.os ∧ AllBare s'.gens) z by
    cases known : K.lookup a with
    | some ob =>
      have here := inK a ob known
      rw [at_a] at here
      cases here
      exact go (fun _ => none) (fun b u e => by cases e) (.inr ⟨_, vs.toArray, _, known, rfl, rfl, rfl, by rw [List.size_toArray, sameL]; exact le, by simpa using isI⟩) (fun b u e => by cases e)
    | none =>
      let G : Hp := fun b => if b = a then some (.frz { cls := .type "list", data := .seq vs.toArray } (.lst (ns.map V.int))) else none
      have at_G : G a = some (.frz { cls := .type "list", data := .seq vs.toArray } (.lst (ns.map V.int))) := if_pos rfl
      have only_G : ∀ b u, G b = some u → b = a ∧ u = .frz { cls := .type "list", data := .seq vs.toArray } (.lst (ns.map V.int)) := fun b u e => by
        by_cases c : b = a
        · subst c
          rw [at_G] at e
          exact ⟨rfl, (Option.some.inj e).symm⟩
        · rw [show G b = none from if_neg c] at e
          cases e
      refine go G (fun b u e => ⟨(only_G b u e).1, known, _, _, (only_G b u e).2⟩) (.inl (.inr ⟨_, at_G⟩)) fun b u e => ?_
      obtain ⟨rfl, rfl⟩ := only_G b u e
      exact ⟨at_a, by rw [List.length_map]; exact le, vs, _, isI, at_a⟩
  intro H only seen ok
  have free : ∀ {b : Addr} {o : Obj}, z.heap.get? b = some o → (b = a → K.lookup a = none → False) → (hidT z.heap H).get? b = some o := fun {b o} e n => hidT_get e (by
    cases c : H b with
    | none => rfl
    | some u => exact (n (only b u c).1 (only b u c).2.1).elim)
  have dicts : ∀ {b : Addr} {m : PySem.Str → Option Value}, z.heap.Ns b m → (hidT z.heap H).Ns b m := fun {b m} ⟨o, es, ep, e, d, r⟩ => ⟨o, es, ep, free e (fun c _ => by
    subst c
    rw [at_a] at e
    cases e
    cases d), d, r⟩
  have inB : K.In (hidT z.heap H) := fun b o e => free (inK b o e) fun c n => by
    subst c
    rw [n] at e
    cases e
  obtain ⟨mc, l1, l2⟩ := nolim
  have e0 : Env0 P w K mg (hidT z.heap H) callerA [] z H := ⟨rfl, ⟨inB, dicts nsG, ⟨mb, dicts nsB, boot⟩, mc, dicts l1, l2⟩, fun b o e => of_hidT e, Nat.le_of_eq (hidT_size _ _), trivial, fun b hb => (by cases hb), ok, .of_eq nogen⟩
  have onl : Only H := fun b => by
    cases c : H b with
    | none => exact .inl rfl
    | some u =>
      obtain ⟨_, _, o, xs, e⟩ := only b u c
      exact .inr ⟨o, xs, by rw [e]⟩
  refine codeAny_mono ((F _ inB (dicts nsG)).run callerA [] z H ⟨[.ref a], []⟩ [.ref a] [.ref a] _ _ rfl room e0 (bind z (.ref a)) (.cons rfl .nil) (told H onl seen)) fun r s' got => ?_
  rcases r with e | (_ | _ | _ | _)
  all_goals first
    | exact False.elim got
    | skip
  rename_i u
  obtain ⟨v, H', os, bare, un, ok', rel, e⟩ := got
  obtain rfl : v = V.bl true := e
  have e2 : u = Value.bool true := rel
  subst e2
  refine ⟨rfl, .of_keep fun b o e => ?_, os, bare⟩
  cases c : H b with
  | none => exact un.keep b o e c (fun m => by cases m) (fun m => by cases m)
  | some u =>
    obtain ⟨_, _, ob, xs, eu⟩ := only b u c
    rw [eu] at c
    have k1 := (ok b _ c).1
    have k2 := (ok' b _ (un.frzs b ob _ c)).1
    rw [e] at k1
    cases k1
    exact k2
/-- the head's last goal, from a promise kept where no repr runs yet -/
theorem walk_G {l : PySem.W.OpenLaw} {n k : Nat} {q : Program} {loose : List PySem.Str} {XP : (PySem.Str → Option Value) → Heap → Prop} {YP : World → Heap → Prop} {d : DefRec} {K : Params → PySem.W.Frag} {sp : PySem.W.Frag → Sp} {x : PySem.Str}
    (most : l.most = some n) (size : n ≤ sizeLine) (nodef : d.params.defaults = []) (room : Room k callerA)
    (inK : ∀ (w : World) (h : Heap), YP w h → (K w.params).In h)
    (F : ∀ (w : World) (mg : PySem.Str → Option Value) (fa : Addr) (h : Heap), (K w.params).In h → h.Ns mainGlobals mg → mg d.name = some (.ref fa) →
      ∃ fd : FuncData, (∀ (s : Shared) (u : Value), BindsTo s fd ⟨[u], []⟩ [(x, u)]) ∧
        ∀ base : Heap, (K w.params).In base → base.Ns mainGlobals mg → FnOkG l.prog w (K w.params) mg base k fa fd [x] (sp (K w.params)))
    (told : ∀ (K : PySem.W.Frag) (H : Hp) (a : Addr) (ns : List Int), ns.length ≤ n → Only H → SqL K H a (ns.map V.int) → sp K [.ref a] H (fun v _ => v = .bl true) E0) :
    PySem.W.WalkO q loose XP YP l.row.toRowW d [] (fun f vs => PySem.call f vs) := by
  refine Att.attach_call most nodef fun w s₀ s₁ mg mb fa o pm cd doc a vs ns G Y ho hd hcd hmg hobj hints hlen hg => ?_
  obtain ⟨fd, b, hF⟩ := F w mg fa _ (inK w _ Y) G.T.g hmg
  exact law_callG (inK w _ Y) G.T.g G.T.b G.T.builtins G.T.nolimit hg hobj hints (Nat.le_trans hlen size) room hF b fun H o s => told _ H a ns hlen o s
end Bz

namespace Bz
open PySem PySem.Spec PyProof.Rows L2
/-! ### how long the texts are that repr gives -/
theorem textFrom_up : ∀ (ts : List PySem.Str) (k : Nat) (acc : PySem.Str), (textFrom k acc ts).length ≤ acc.length + piled ts
  | [], k, acc => by
    show acc.length ≤ _
    omega
  | t :: r, k, acc => by
    have ih := textFrom_up r (k + 1) (acc ++ (if k > 0 then ", " else "" : String) ++ t)
    have e : (acc ++ (if k > 0 then ", " else "" : String) ++ t).length ≤ acc.length + 2 + t.length := by
      rw [strLen_append, strLen_append]
      by_cases c : k > 0
      · rw [if_pos c]
        have : ((", " : String) : PySem.Str).length = 2 := rfl
        omega
      · rw [if_neg c]
        have : (("" : String) : PySem.Str).length = 0 := rfl
        omega
    rw [piled_cons]
    show (textFrom (k + 1) _ r).length ≤ _
    omega
theorem listText_up (ts : List PySem.Str) : (listText ts).length ≤ piled ts + 2 := by
  unfold listText
  have := textFrom_up ts 0 "["
  rw [strLen_append]
  have e1 : (("[" : String) : PySem.Str).length = 1 := rfl
  have e2 : (("]" : String) : PySem.Str).length = 1 := rfl
  omega
theorem tupleText_up (ts : List PySem.Str) : (tupleText ts).length ≤ piled ts + 3 := by
  unfold tupleText
  have j : (PySem.Str.join ", " ts).length ≤ piled ts := by
    cases ts with
    | nil => exact Nat.zero_le _
    | cons t r =>
      have := join_length_add (t :: r) (by simp)
      omega
  rw [strLen_append, strLen_append]
  have e1 : (("(" : String) : PySem.Str).length = 1 := rfl
  have e2 : ((if ts.length == 1 then ",)" else ")" : String) : PySem.Str).length ≤ 2 := by
    split
    · exact Nat.le_refl 2
    · exact (by decide : (1 : Nat) ≤ 2)
  omega
theorem asci_reprChar (q : Nat) (hq : q = 34 ∨ q = 39) {c : Nat} (hc : c < 128) : ∀ d ∈ PySem.Builtin.Str.reprChar q c, d < 128 := by
  have key : ∀ c : Fin 128, ((PySem.Builtin.Str.reprChar 34 c.val).all fun d => decide (d < 128)) = true ∧ ((PySem.Builtin.Str.reprChar 39 c.val).all fun d => decide (d < 128)) = true := by decide +kernel
  have := key ⟨c, hc⟩
  intro d hd
  rcases hq with rfl | rfl
  · exact of_decide_eq_true (List.all_eq_true.mp this.1 d hd)
  · exact of_decide_eq_true (List.all_eq_true.mp this.2 d hd)
theorem asci_repr {s : PySem.Str} (h : Asci s) : Asci (reprText s) := by
  have hq : reprQuote s = 34 ∨ reprQuote s = 39 := by
    unfold reprQuote
    split
    · exact .inl rfl
    · exact .inr rfl
  have q128 : reprQuote s < 128 := by rcases hq with e | e <;> rw [e] <;> decide
  have fold : ∀ (l : List Nat) (acc : Array Nat), (∀ c ∈ l, c < 128) → (∀ c ∈ acc.toList, c < 128) → ∀ c ∈ (l.foldl (fun out c => out ++ (PySem.Builtin.Str.reprChar (reprQuote s) c).toArray) acc).toList, c < 128 := by
    intro l
    induction l with
    | nil => intro acc _ h; exact h
    | cons a r ih =>
      intro acc hl hacc
      rw [List.foldl_cons]
      refine ih _ (fun c hc => hl c (List.mem_cons_of_mem _ hc)) fun c hc => ?_
      rw [Array.toList_append] at hc
      rcases List.mem_append.mp hc with hc | hc
      · exact hacc c hc
      · exact asci_reprChar _ hq (hl a (List.mem_cons_self ..)) c (by simpa using hc)
  intro c hc
  have e : TL.tl (reprText s) = (s.cps.toList.foldl (fun out c => out ++ (PySem.Builtin.Str.reprChar (reprQuote s) c).toArray) #[reprQuote s]).toList ++ [reprQuote s] := by
    show ((s.cps.foldl (fun out c => out ++ (PySem.Builtin.Str.reprChar (reprQuote s) c).toArray) #[reprQuote s]).push (reprQuote s)).toList = _
    rw [Array.toList_push, ← Array.foldl_toList]
  rw [e] at hc
  rcases List.mem_append.mp hc with hc | hc
  · exact fold _ _ (fun c hc => h c hc) (fun c hc => by
      have : c = reprQuote s := by simpa using hc
      rw [this]
      exact q128) c hc
  · rw [List.mem_singleton.mp hc]
    exact q128
theorem asci_textFrom : ∀ (ts : List PySem.Str) (k : Nat) (acc : PySem.Str), Asci acc → (∀ t ∈ ts, Asci t) → Asci (textFrom k acc ts)
  | [], k, acc, h, _ => h
  | t :: r, k, acc, h, ht => by
    refine asci_textFrom r (k + 1) _ (asci_app (asci_app h ?_) (ht t (List.mem_cons_self ..))) fun t h => ht t (List.mem_cons_of_mem _ h)
    by_cases c : k > 0
    · rw [if_pos c]
      unfold Asci
      decide +kernel
    · rw [if_neg c]
      unfold Asci
      decide +kernel
theorem asci_listText {ts : List PySem.Str} (h : ∀ t ∈ ts, Asci t) : Asci (listText ts) := asci_app (asci_textFrom ts 0 _ (by unfold Asci; decide +kernel) h) (by unfold Asci; decide +kernel)
theorem asci_sjoin {s : PySem.Str} (hs : Asci s) : ∀ {ts : List PySem.Str}, (∀ t ∈ ts, Asci t) → Asci (PySem.Str.join s ts)
  | [], _ => by
    intro c hc
    cases hc
  | [t], h => h t (List.mem_cons_self ..)
  | t :: u :: r, h => asci_app (asci_app (h t (List.mem_cons_self ..)) hs) (asci_sjoin hs fun t h2 => h t (List.mem_cons_of_mem _ h2))
theorem asci_tupleText {ts : List PySem.Str} (h : ∀ t ∈ ts, Asci t) : Asci (tupleText ts) := by
  refine asci_app (asci_app (by unfold Asci; decide +kernel) (asci_sjoin (by unfold Asci; decide +kernel) h)) ?_
  split <;> (unfold Asci; decide +kernel)
/-- a value that repr can show, its text no longer than n -/
structure ShB (d : PyData) (l n : Nat) : Prop where
  sh : d.showable = true
  nd : d.hasDict = false
  dp : d.depth ≤ l
  len : d.shown.length ≤ n
  asc : Asci d.shown
structure ShBs (ds : List PyData) (l n : Nat) : Prop where
  sh : PyData.showableAll ds = true
  nd : PyData.hasDictAll ds = false
  dp : PyData.depthAll ds ≤ l
  len : piled (PyData.shownAll ds) ≤ n
  asc : ∀ t ∈ PyData.shownAll ds, Asci t
theorem ShBs.nil {l : Nat} : ShBs [] l 0 := ⟨by simp only [PyData.showableAll], by simp only [PyData.hasDictAll], by simp only [PyData.depthAll]; omega, by simp only [PyData.shownAll]; exact Nat.le_refl _, by simp only [PyData.shownAll]; intro t h; cases h⟩
theorem ShBs.cons {d : PyData} {ds : List PyData} {l n m k : Nat} (h : ShB d l n) (g : ShBs ds l m) (e : n + 2 + m ≤ k := by omega) : ShBs (d :: ds) l k := by
  refine ⟨?_, ?_, ?_, ?_, ?_⟩
  · simp only [PyData.showableAll, h.sh, g.sh, Bool.and_self]
  · simp only [PyData.hasDictAll, h.nd, g.nd, Bool.or_self]
  · simp only [PyData.depthAll]
    have := h.dp
    have := g.dp
    omega
  · simp only [PyData.shownAll]
    rw [piled_cons]
    have := h.len
    have := g.len
    omega
  · simp only [PyData.shownAll]
    intro t ht
    rcases List.mem_cons.mp ht with e | ht
    · rw [e]
      exact h.asc
    · exact g.asc t ht
theorem ShBs.tup {ds : List PyData} {l n : Nat} (h : ShBs ds l n) : ShB (.tuple ds) (l + 1) (n + 3) := by
  refine ⟨?_, ?_, ?_, ?_, ?_⟩
  · simp only [PyData.showable, h.sh]
  · simp only [PyData.hasDict, h.nd]
  · simp only [PyData.depth]
    have := h.dp
    omega
  · simp only [PyData.shown]
    have := tupleText_up (PyData.shownAll ds)
    have := h.len
    omega
  · simp only [PyData.shown]
    exact asci_tupleText h.asc
theorem ShBs.lst {ds : List PyData} {l n : Nat} (h : ShBs ds l n) : ShB (.list ds) (l + 1) (n + 2) := by
  refine ⟨?_, ?_, ?_, ?_, ?_⟩
  · simp only [PyData.showable, h.sh]
  · simp only [PyData.hasDict, h.nd]
  · simp only [PyData.depth]
    have := h.dp
    omega
  · simp only [PyData.shown]
    have := listText_up (PyData.shownAll ds)
    have := h.len
    omega
  · simp only [PyData.shown]
    exact asci_listText h.asc
theorem ShB.mono {d : PyData} {l n l' n' : Nat} (h : ShB d l n) (a : l ≤ l' := by omega) (b : n ≤ n' := by omega) : ShB d l' n' := ⟨h.sh, h.nd, Nat.le_trans h.dp a, Nat.le_trans h.len b, h.asc⟩
theorem ShB.str {s : PySem.Str} {l : Nat} (h : Asci s) : ShB (.str s) l (10 * s.length + 2) := by
  refine ⟨by simp only [PyData.showable], by simp only [PyData.hasDict], by simp only [PyData.depth]; omega, ?_, by simp only [PyData.shown]; exact asci_repr h⟩
  simp only [PyData.shown]
  exact StrLaws.reprText_len s fun c hc => Nat.lt_trans (h c hc) (by decide)
theorem ShB.non {l : Nat} : ShB .none l 4 := ⟨by simp only [PyData.showable], by simp only [PyData.hasDict], by simp only [PyData.depth]; omega, by simp only [PyData.shown]; exact Nat.le_refl 4, by simp only [PyData.shown]; unfold Asci; decide +kernel⟩
theorem ShB.bool {b : Bool} {l : Nat} : ShB (.bool b) l 5 := ⟨by simp only [PyData.showable], by simp only [PyData.hasDict], by simp only [PyData.depth]; omega, by simp only [PyData.shown]; cases b <;> decide +kernel, by simp only [PyData.shown]; unfold Asci; cases b <;> decide +kernel⟩
theorem ShB.int {i : Int} {l : Nat} (h0 : -10 ≤ i) (h1 : i ≤ 110) : ShB (.int i) l 10 := by
  refine ⟨?_, by simp only [PyData.hasDict], by simp only [PyData.depth]; omega, ?_, ?_⟩
  · simp only [PyData.showable]
    exact decide_eq_true (Nat.lt_of_le_of_lt (Nat.log2_le_self _) (by omega))
  · simp only [PyData.shown]
    have key : ∀ n : Fin 121, (PySem.Str.ofString (toString ((n.val : Int) - 10))).length ≤ 10 := by decide +kernel
    have := key ⟨(i + 10).toNat, by omega⟩
    rw [show (((⟨(i + 10).toNat, by omega⟩ : Fin 121).val : Int) - 10) = i from by show (((i + 10).toNat : Nat) : Int) - 10 = i; omega] at this
    exact this
  · simp only [PyData.shown]
    have key : ∀ n : Fin 121, ((TL.tl (PySem.Str.ofString (toString ((n.val : Int) - 10)))).all fun c => decide (c < 128)) = true := by decide +kernel
    have := key ⟨(i + 10).toNat, by omega⟩
    rw [show (((⟨(i + 10).toNat, by omega⟩ : Fin 121).val : Int) - 10) = i from by show (((i + 10).toNat : Nat) : Int) - 10 = i; omega] at this
    exact fun c hc => of_decide_eq_true (List.all_eq_true.mp this c hc)
theorem ShB.shown {K : PySem.W.Frag} {H : Hp} {v : V} {d : PyData} {l n : Nat} (h : ShB d l n) (hd : Dp K H v d) (hl : l ≤ 20 := by decide) (hn : n ≤ sizeLine := by exact Nat.le_of_ble_eq_true rfl) : Dp K H v d ∧ d.showable = true ∧ d.hasDict = false ∧ d.depth ≤ 20 ∧ d.shown.length ≤ sizeLine :=
  ⟨hd, h.sh, h.nd, Nat.le_trans h.dp hl, Nat.le_trans h.len hn⟩
/-! ### odd values: plain ones, and lists and tuples of them -/
def FlatS (v : V) : Prop := FlatV v ∧ ∀ i, v = .int i → -10 ≤ i ∧ i ≤ 110
theorem FlatS.shB {v : V} (h : FlatS v) {l : Nat} : ShB (datV v) l 1002 := by
  obtain ⟨h, hi⟩ := h
  cases v with
  | str s => exact (ShB.str h.2).mono (Nat.le_refl _) (by have := h.1; omega)
  | int i => exact (ShB.int (l := l) (hi i rfl).1 (hi i rfl).2).mono
  | bl b => exact (ShB.bool (l := l)).mono
  | non => exact (ShB.non (l := l)).mono
  | _ => exact h.elim
inductive OddAt (H : Hp) : V → Option (List V) → PyData → Prop
  | flat {v : V} (h : FlatS v) : OddAt H v none (datV v)
  | tup {a : Addr} {xs : List V} (e : H a = some (.tup xs)) (l : xs.length ≤ 20) (h : ∀ x ∈ xs, FlatS x) : OddAt H (.ref a) (some xs) (.tuple (xs.map datV))
  | lst {a : Addr} {xs : List V} (e : H a = some (.lst xs)) (l : xs.length ≤ 20) (h : ∀ x ∈ xs, FlatS x) : OddAt H (.ref a) (some xs) (.list (xs.map datV))
theorem OddAt.same {H H' : Hp} {v : V} {o : Option (List V)} {d : PyData} (h : OddAt H v o d) (s : Same H H') : OddAt H' v o d := by
  cases h with
  | flat h => exact .flat h
  | tup e l h => exact .tup (s _ _ e) l h
  | lst e l h => exact .lst (s _ _ e) l h
theorem OddAt.ext {H H' : Hp} {p : Addr} {v : V} {o : Option (List V)} {d : PyData} (h : OddAt H v o d) (n : v ≠ .ref p) (s : Ext p H H') : OddAt H' v o d := by
  cases h with
  | flat h => exact .flat h
  | tup e l h => exact .tup (s _ _ (fun z => n (by rw [z])) e) l h
  | lst e l h => exact .lst (s _ _ (fun z => n (by rw [z])) e) l h
theorem OddAt.cand {H : Hp} {v : V} {o : Option (List V)} {d : PyData} (h : OddAt H v o d) : Cand H v o := by
  cases h with
  | flat h => exact ⟨.no h.1, fun xs e => by cases e⟩
  | tup e l h => exact ⟨.tup e, fun xs q => by cases q; exact ⟨l, fun x hx => (h x hx).1⟩⟩
  | lst e l h => exact ⟨.lst e, fun xs q => by cases q; exact ⟨l, fun x hx => (h x hx).1⟩⟩
theorem flats_dp {K : PySem.W.Frag} {H : Hp} : ∀ {xs : List V}, (∀ x ∈ xs, FlatS x) → DpAll K H xs (xs.map datV)
  | [], _ => .nil
  | x :: xs, h => .cons (h x (List.mem_cons_self ..)).1.dp (flats_dp fun y hy => h y (List.mem_cons_of_mem _ hy))
theorem flats_sh : ∀ {xs : List V}, (∀ x ∈ xs, FlatS x) → ShBs (xs.map datV) 0 (1004 * xs.length)
  | [], _ => ShBs.nil
  | x :: xs, h => ShBs.cons (h x (List.mem_cons_self ..)).shB (flats_sh fun y hy => h y (List.mem_cons_of_mem _ hy)) (by rw [List.length_cons]; omega)
theorem OddAt.dp {K : PySem.W.Frag} {H : Hp} {v : V} {o : Option (List V)} {d : PyData} (h : OddAt H v o d) : Dp K H v d := by
  cases h with
  | flat h => exact h.1.dp
  | tup e l h => exact .tup (SqT.of e) (flats_dp h)
  | lst e l h => exact .lst (SqL.of e) (flats_dp h)
theorem OddAt.shB {H : Hp} {v : V} {o : Option (List V)} {d : PyData} (h : OddAt H v o d) : ShB d 1 20083 := by
  cases h with
  | flat h => exact (h.shB (l := 0)).mono
  | tup e l h => exact (flats_sh h).tup.mono
  | lst e l h => exact (flats_sh h).lst.mono
end Bz

namespace Bz
open PySem PySem.Spec PyProof.Rows L2
/-! ### functions handed over: what a call of the object at f does, from a state on -/
/-- the code objects that are known stay known -/
def Kc (H H' : Hp) : Prop := ∀ b q, H b = some (LamX.CodeO b q) → H' b = some (LamX.CodeO b q)
theorem Kc.refl (H : Hp) : Kc H H := fun _ _ h => h
theorem Kc.trans {H H1 H2 : Hp} (a : Kc H H1) (b : Kc H1 H2) : Kc H H2 := fun c q h => b c q (a c q h)
theorem Kc.same {H H' : Hp} (s : Same H H') : Kc H H' := fun _ _ h => s _ _ h
structure Acts (P : Program) (w : World) (K : PySem.W.Frag) (mg : PySem.Str → Option Value) (base : Heap) (fs : List Addr) (H0 : Hp) (s0 : Shared) (k : Nat) (f : Addr) (tl : Sp) : Prop where
  fn : PySem.W.FnAt f s0.heap
  no : H0 f = none
  nf : f ∉ fs
  run : ∀ (A : Around) (outer : List Env) (s : Shared) (H : Hp) (us : List Value) (vs : List V) (Q : VK) (E : XK), Room k A → Env0 P w K mg base A outer s H → Un fs [] H0 H s0.heap s.heap → Kc H0 H → Vals vs us → tl vs H Q E →
    codeAny (model P w) A (.call (.ref f) ⟨us, []⟩) (CR (L2.CX P w) outer P w H s Q E) s
section
variable {P : Program} {w : World} {K : PySem.W.Frag} {mg : PySem.Str → Option Value} {base : Heap} {fs : List Addr} {H0 : Hp} {s0 : Shared} {k : Nat} {f : Addr} {tl : Sp}
theorem un_thru {fs gs : List Addr} {H H1 H2 : Hp} {h h1 h2 : Heap} (a : Un fs [] H H1 h h1) (b : Un gs [] H1 H2 h1 h2) (sub : ∀ c o, h.get? c = some o → c ∈ gs → c ∈ fs) : Un fs [] H H2 h h2 where
  keep := fun c o e n hf hx => by
    refine b.keep c o (a.keep c o e n hf hx) (a.free c o e n hx) (fun z => hf (sub c o e z)) hx
  slot := fun c o e n hf hx => by
    obtain ⟨sl, e1⟩ := a.slot c o e n hf hx
    have n1 := a.free c o e n hx
    obtain ⟨sl2, e2⟩ := b.any e1 n1 hx
    exact ⟨sl2, e2⟩
  free := fun c o e n hx => by
    obtain ⟨o1, e1⟩ := a.there c o e hx
    exact b.free c o1 e1 (a.free c o e n hx) hx
  there := fun c o e hx => by
    obtain ⟨o1, e1⟩ := a.there c o e hx
    exact b.there c o1 e1 hx
  tups := fun c xs e => b.tups c xs (a.tups c xs e)
  frzs := fun c o u e => b.frzs c o u (a.frzs c o u e)
  tbls := fun c ps e => by
    obtain ⟨m1, e1⟩ := a.tbls c ps e
    obtain ⟨m2, e2⟩ := b.tbls c _ e1
    exact ⟨m1 ++ m2, by rw [e2, Array.append_assoc]⟩
theorem Acts.later (h : Acts P w K mg base fs H0 s0 k f tl) {gs : List Addr} {H1 : Hp} {s1 : Shared} (u : Un fs [] H0 H1 s0.heap s1.heap) (kc : Kc H0 H1) (sub : ∀ c o, s0.heap.get? c = some o → c ∈ gs → c ∈ fs) : Acts P w K mg base gs H1 s1 k f tl := by
  obtain ⟨oc, od, fd, sl, e⟩ := h.fn
  have e1 := u.keep f _ e h.no h.nf (by simp)
  refine ⟨⟨oc, od, fd, sl, e1⟩, u.free f _ e h.no (by simp), fun z => h.nf (sub f _ e z), fun A outer s H us vs Q E hr he un kc2 hv ht => h.run A outer s H us vs Q E hr he (un_thru u un sub) (kc.trans kc2) hv ht⟩
theorem Acts.imp (h : Acts P w K mg base fs H0 s0 k f tl) {tl' : Sp} (i : ∀ vs H Q E, tl' vs H Q E → tl vs H Q E) : Acts P w K mg base fs H0 s0 k f tl' :=
  ⟨h.fn, h.no, h.nf, fun A outer s H us vs Q E hr he un kc hv ht => h.run A outer s H us vs Q E hr he un kc hv (i _ _ _ _ ht)⟩
theorem Acts.mono (h : Acts P w K mg base fs H0 s0 k f tl) {j : Nat} (i : k ≤ j) : Acts P w K mg base fs H0 s0 j f tl :=
  ⟨h.fn, h.no, h.nf, fun A outer s H us vs Q E hr he un kc hv ht => h.run A outer s H us vs Q E (hr.mono i) he un kc hv ht⟩
end
section
variable {X : Cx} {i k j : Nat} {a : PySem.Str} {f : Addr} {tl : Sp} {E : XK} {e : Expr} {es : List Expr} {p1 p2 : Pos} {t : TA}
theorem acts_at {pins : List (Addr × Obj)} {σ : L2.St} {H : Hp} {s : Shared} (hA : Acts X.prog X.w X.K X.mg X.base X.fs X.H_0 X.s_0 k f tl) (hex : X.ex = []) (I : Inv X pins σ H s) : PySem.W.FnAt f s.heap := by
  obtain ⟨oc, od, fd, sl, e⟩ := hA.fn
  exact ⟨oc, od, fd, sl, I.base.keep f _ e hA.no hA.nf (by rw [hex]; simp)⟩
/-- a(e, ..), where a is a parameter that holds the function at f -/
theorem pe_actv (hA : Acts X.prog X.w X.K X.mg X.base X.fs X.H_0 X.s_0 k f tl) (hr : Room j X.A) (hx : Passes (L2.CX X.prog X.w) X E) (ha : PA X (e :: es) t) (hj : k ≤ j := by decide) (hN : X.N[i]? = some a := by rfl) (hv : Vis X.env.scope a := by exact Or.inl rfl) (hex : X.ex = [] := by rfl)
    (hd : (a == ("__debug__" : PySem.Str)) = false := by decide) (hcd : (a == ("__classdict__" : PySem.Str)) = false := by decide)
    (he : starEach (e :: es) X.env = (false, eval e X.env) :: starEach es X.env := by rfl) (hpl : (backTo p2 (starEach es X.env)).any (·.1) = false := by rfl) :
    PE X (.Call (.Name a p1) (e :: es) [] p2) (fun σ H Q => σ[i]? = some (some (.ref f)) ∧ t σ H fun vs H1 => Kc X.H_0 H1 ∧ tl vs H1 Q E) := by
  refine ⟨fun pins s σ H Q I h => ?_⟩
  obtain ⟨h1, h2⟩ := h
  refine wpAny_Call_Name_kw (thn ((pe_var (pos := p1) (i := i) hN hv hd hcd).run pins s σ H (fun v H1 => v = .ref f ∧ H1 = H) I ⟨.ref f, h1, rfl, rfl⟩) fun u s1 ⟨v, H1, I1, r1, q1⟩ => ?_)
  obtain ⟨ev, eH⟩ := q1
  subst ev
  rw [eH] at I1
  obtain rfl : u = Value.ref f := r1
  refine PySem.W.callWith_F (acts_at hA hex I1) (thn (ha.run p2 pins s1 σ H _ I1 h2) fun us s2 ⟨vs, H2, I2, r2, q2⟩ => ⟨acts_at hA hex I2, ?_⟩) he hpl
  have un : Un X.fs [] X.H_0 H2 X.s_0.heap s2.heap := by
    have u := I2.base
    rw [hex] at u
    exact u
  refine wpAny_call (codeAny_mono (hA.run X.A X.stack s2 H2 us vs Q E (hr.mono hj) I2.env0 un q2.1 r2 q2.2) fun r s' hq => ?_)
  cases r with
  | error e => exact hx pins σ H2 s2 e s' I2 hq
  | ok fl =>
    cases fl with
    | ret u => exact I2.after hq
    | next => exact False.elim hq
    | brk => exact False.elim hq
    | cont => exact False.elim hq
/-- a() -/
theorem pe_actv0 (hA : Acts X.prog X.w X.K X.mg X.base X.fs X.H_0 X.s_0 k f tl) (hr : Room j X.A) (hx : Passes (L2.CX X.prog X.w) X E) (hj : k ≤ j := by decide) (hN : X.N[i]? = some a := by rfl) (hv : Vis X.env.scope a := by exact Or.inl rfl) (hex : X.ex = [] := by rfl)
    (hd : (a == ("__debug__" : PySem.Str)) = false := by decide) (hcd : (a == ("__classdict__" : PySem.Str)) = false := by decide) :
    PE X (.Call (.Name a p1) [] [] p2) (fun σ H Q => σ[i]? = some (some (.ref f)) ∧ Kc X.H_0 H ∧ tl [] H Q E) := by
  refine ⟨fun pins s σ H Q I h => ?_⟩
  obtain ⟨h1, h2⟩ := h
  refine wpAny_Call_Name_kw (thn ((pe_var (pos := p1) (i := i) hN hv hd hcd).run pins s σ H (fun v H1 => v = .ref f ∧ H1 = H) I ⟨.ref f, h1, rfl, rfl⟩) fun u s1 ⟨v, H1, I1, r1, q1⟩ => ?_)
  obtain ⟨ev, eH⟩ := q1
  subst ev
  rw [eH] at I1
  obtain rfl : u = Value.ref f := r1
  refine PySem.W.callWith_F0 (acts_at hA hex I1) ?_
  have un : Un X.fs [] X.H_0 H X.s_0.heap s1.heap := by
    have u := I1.base
    rw [hex] at u
    exact u
  refine wpAny_call (codeAny_mono (hA.run X.A X.stack s1 H [] [] Q E (hr.mono hj) I1.env0 un h2.1 .nil h2.2) fun r s' hq => ?_)
  cases r with
  | error e => exact hx pins σ H s1 e s' I1 hq
  | ok fl =>
    cases fl with
    | ret u => exact I1.after hq
    | next => exact False.elim hq
    | brk => exact False.elim hq
    | cont => exact False.elim hq
end
/-! ### expressions that give functions, handed over -/
/-- f's object is given, and what it does is known as long as the new pins stay -/
structure Given (X : Cx) (pins : List (Addr × Obj)) (σ : L2.St) (H : Hp) (k : Nat) (f : Addr) (tl : Sp) : Prop where
  at_ : ∀ (pins' : List (Addr × Obj)) (s2 : Shared) (H2 : Hp), Inv X pins' σ H2 s2 → (∀ p ∈ pins, p ∈ pins') → Kc H H2 → Kc X.H_0 H2 → Acts X.prog X.w X.K X.mg X.base (frs X.stack) H2 s2 k f tl
/-- arguments of which some are functions: what comes of them -/
structure PAF (X : Cx) (k : Nat) (es : List Expr) (t : L2.St → Hp → (List V → List (Addr × Sp) → Hp → Prop) → Prop) : Prop where
  run : ∀ (pos : Pos) (pins : List (Addr × Obj)) (s : Shared) (σ : L2.St) (H : Hp) (R : List V → List (Addr × Sp) → Hp → Prop), Inv X pins σ H s → t σ H R →
    wpAny (model X.prog X.w) X.A (spliced (backTo pos (starEach es X.env))) (fun us s' => ∃ vs fl H' ps, Inv X (ps ++ pins) σ H' s' ∧ Vals vs us ∧ (∀ p ∈ fl, Given X (ps ++ pins) σ H' k p.1 p.2) ∧ R vs fl H') X.xe s
/-- an expression that gives a function -/
structure PF (X : Cx) (k : Nat) (e : Expr) (t : L2.St → Hp → (Addr → Sp → Hp → Prop) → Prop) : Prop where
  run : ∀ (pins : List (Addr × Obj)) (s : Shared) (σ : L2.St) (H : Hp) (R : Addr → Sp → Hp → Prop), Inv X pins σ H s → t σ H R →
    wpAny (model X.prog X.w) X.A (eval e X.env) (fun u s' => ∃ f tl H' ps, u = .ref f ∧ Inv X (ps ++ pins) σ H' s' ∧ Given X (ps ++ pins) σ H' k f tl ∧ R f tl H') X.xe s
theorem Given.more {X : Cx} {pins pins' : List (Addr × Obj)} {σ : L2.St} {H H' : Hp} {k : Nat} {f : Addr} {tl : Sp} (g : Given X pins σ H k f tl) (sub : ∀ p ∈ pins, p ∈ pins') (kc : Kc H H') : Given X pins' σ H' k f tl :=
  ⟨fun pins2 s2 H2 I hp k1 k2 => g.at_ pins2 s2 H2 I (fun p q => hp p (sub p q)) (kc.trans k1) k2⟩
section
variable {X : Cx} {k : Nat} {e : Expr} {es : List Expr} {te : TE} {tf : L2.St → Hp → (Addr → Sp → Hp → Prop) → Prop} {t : L2.St → Hp → (List V → List (Addr × Sp) → Hp → Prop) → Prop}
theorem paf_nil : PAF X k [] (fun _ H R => R [] [] H) := ⟨fun _ pins _ _ H R I h => Calls.spliced_nil ⟨[], [], H, [], I, .nil, fun p hp => (by cases hp), h⟩⟩
theorem paf_val (ha : PE X e te) (hr : PAF X k es t) (hs : starEach (e :: es) X.env = (false, eval e X.env) :: starEach es X.env := by rfl) : PAF X k (e :: es) (fun σ H R => te σ H fun v H1 => t σ H1 fun vs fl H2 => R (v :: vs) fl H2) := by
  refine ⟨fun pos pins s σ H R I h => ?_⟩
  rw [hs]
  show wpAny _ _ (spliced ((false, eval e X.env) :: backTo pos (starEach es X.env))) _ _ s
  refine Calls.spliced_cons (thn (ha.run pins s σ H _ I h) fun u s1 ⟨x, H1, I1, r1, q1⟩ => ?_)
  exact thn (hr.run pos pins s1 σ H1 _ I1 q1) fun us s2 ⟨xs, fl, H2, ps, I2, r2, g2, q2⟩ => ⟨x :: xs, fl, H2, ps, I2, .cons r1 r2, g2, q2⟩
theorem paf_fun (ha : PF X k e tf) (hr : PAF X k es t) (hs : starEach (e :: es) X.env = (false, eval e X.env) :: starEach es X.env := by rfl) : PAF X k (e :: es) (fun σ H R => tf σ H fun f tl H1 => t σ H1 fun vs fl H2 => Kc H1 H2 ∧ R (.ref f :: vs) ((f, tl) :: fl) H2) := by
  refine ⟨fun pos pins s σ H R I h => ?_⟩
  rw [hs]
  show wpAny _ _ (spliced ((false, eval e X.env) :: backTo pos (starEach es X.env))) _ _ s
  refine Calls.spliced_cons (thn (ha.run pins s σ H _ I h) fun u s1 ⟨f, tl, H1, ps, eu, I1, g1, q1⟩ => ?_)
  subst eu
  refine thn (hr.run pos (ps ++ pins) s1 σ H1 _ I1 q1) fun us s2 ⟨xs, fl, H2, ps2, I2, r2, g2, kc, q2⟩ => ⟨.ref f :: xs, (f, tl) :: fl, H2, ps2 ++ ps, by rw [List.append_assoc]; exact I2, .cons rfl r2, fun p hp => ?_, q2⟩
  rw [List.append_assoc]
  rcases List.mem_cons.mp hp with e | hp
  · rw [e]
    exact g1.more (fun p hp => List.mem_append_right _ hp) kc
  · exact g2 p hp
end
/-! ### a parameter that holds a function, handed on -/
theorem pf_var {X : Cx} {i k : Nat} {a : PySem.Str} {f : Addr} {tl : Sp} {p1 : Pos} (hA : Acts X.prog X.w X.K X.mg X.base X.fs X.H_0 X.s_0 k f tl) (hN : X.N[i]? = some a := by rfl) (hv : Vis X.env.scope a := by exact Or.inl rfl) (hex : X.ex = [] := by rfl) (hst : X.stack = X.env :: X.outer := by rfl) (hfr : X.env.frame = some X.env.locals := by rfl)
    (hd : (a == ("__debug__" : PySem.Str)) = false := by decide) (hcd : (a == ("__classdict__" : PySem.Str)) = false := by decide) : PF X k (.Name a p1) (fun σ H R => σ[i]? = some (some (.ref f)) ∧ R f tl H) := by
  refine ⟨fun pins s σ H R I h => ?_⟩
  refine thn ((pe_var (pos := p1) (i := i) hN hv hd hcd).run pins s σ H (fun v H1 => v = .ref f ∧ R f tl H1) I ⟨.ref f, h.1, rfl, h.2⟩) fun u s1 ⟨v, H1, I1, r1, ev, q1⟩ => ?_
  subst ev
  obtain rfl : u = Value.ref f := r1
  refine ⟨f, tl, H1, [], rfl, I1, ⟨fun pins2 s2 H2 I2 _ _ kc => ?_⟩, q1⟩
  have un : Un X.fs [] X.H_0 H2 X.s_0.heap s2.heap := by
    have u := I2.base
    rw [hex] at u
    exact u
  refine hA.later un kc fun c o ec hc => ?_
  rw [hst] at hc
  have hc : c ∈ List.filterMap (·.frame) (X.env :: X.outer) := hc
  rw [List.filterMap_cons, hfr] at hc
  rcases List.mem_cons.mp hc with e | hc
  · have h1 := Heap.lt_size ec
    have h2 := I2.ok.above
    rw [e] at h1
    exact absurd h2 (Nat.not_le_of_lt h1)
  · exact hc
/-! ### lambdas with parameters -/
structure LamP (ps : List PySem.Str) (sc scope : Scope) : Prop where
  kind : scope.kind = .function
  co : scope.isCoroutine = false
  gen : scope.isGenerator = false
  nd : ps.Nodup
  noc : ∀ y ∈ scope.names, y.2 ≠ .cell
  par : ∀ p ∈ ps, scope.names.lookup p = some .local
  loc : ∀ y, scope.names.lookup y = some .local → y ∈ ps
  free : ∀ y ∈ scope.names, y.2 = .free → sc.names.lookup y.1 = some .cell ∨ sc.names.lookup y.1 = some .free
def lamPB (ps : List PySem.Str) (sc scope : Scope) : Bool :=
  decide (scope.kind = .function) && !scope.isCoroutine && !scope.isGenerator && decide ps.Nodup && (scope.names.all fun y => !decide (y.2 = .cell) && (!decide (y.2 = .free) || decide (sc.names.lookup y.1 = some .cell) || decide (sc.names.lookup y.1 = some .free)) && (!decide (y.2 = .local) || decide (y.1 ∈ ps))) && ps.all fun p => decide (scope.names.lookup p = some .local)
theorem lamP_by {ps : List PySem.Str} {sc scope : Scope} (h : lamPB ps sc scope = true) : LamP ps sc scope := by
  unfold lamPB at h
  simp only [Bool.and_eq_true, Bool.or_eq_true, Bool.not_eq_true', decide_eq_true_eq, decide_eq_false_iff_not, List.all_eq_true] at h
  obtain ⟨⟨⟨⟨⟨h1, h2⟩, h3⟩, h4⟩, h5⟩, h6⟩ := h
  refine ⟨h1, h2, h3, h4, fun y hy => (h5 y hy).1.1, h6, fun y hy => ?_, fun y hy e => ?_⟩
  · rcases (h5 _ (PySem.mem_of_lookup hy)).2 with z | z
    · exact absurd rfl z
    · exact z
  · rcases (h5 y hy).1.2 with (z | z) | z
    · exact absurd e z
    · exact .inl z
    · exact .inr z
theorem LamP.has {X : Cx} {ps : List PySem.Str} {scope : Scope} (L : LamP ps X.env.scope scope) (ok : X.Ok) : ∀ y ∈ scope.names, y.2 = .free → ∃ c, X.env.cells.lookup y.1 = some c := fun y hy e => by
  rcases L.free y hy e with k | k
  · exact ok.has _ (.inl k)
  · exact ok.has _ (.inr k)
/-- the context of the lambda's body -/
def lamCxP (X : Cx) (N : List PySem.Str) (A : Around) (outer : List Env) (s : Shared) (H : Hp) (E : XK) (scope : Scope) (f c' : Addr) : Cx := { LamX.lamCx X A outer s H E scope f c' with N := N }
section
variable {X : Cx} {pins : List (Addr × Obj)} {σ : L2.St} {H HZ : Hp} {s s1 : Shared}
theorem zip_look {ps : List PySem.Str} {us : List Value} (nd : ps.Nodup) (hl : us.length = ps.length) {i : Nat} {x : PySem.Str} {u : Value} (e1 : ps[i]? = some x) (e2 : us[i]? = some u) : (ps.zip us).reverse.lookup x = some u := by
  have key : ∀ (ps : List PySem.Str) (us : List Value) (i : Nat) (acc : List (PySem.Str × Value)), ps.Nodup → us.length = ps.length → ps[i]? = some x → us[i]? = some u → ((ps.zip us).reverse ++ acc).lookup x = some u := by
    intro ps
    induction ps with
    | nil => intro us i acc _ _ e1; simp at e1
    | cons p ps ih =>
      intro us i acc nd hl e1 e2
      cases us with
      | nil => simp at e2
      | cons v us =>
        rw [List.zip_cons_cons, List.reverse_cons, List.append_assoc]
        cases i with
        | zero =>
          obtain rfl : p = x := Option.some.inj e1
          obtain rfl : v = u := Option.some.inj e2
          have nx : ∀ (l : List (PySem.Str × Value)), (∀ q ∈ l, q.1 ≠ p) → (l ++ ([(p, v)] ++ acc)).lookup p = some v := by
            intro l
            induction l with
            | nil => intro _; simp [List.lookup]
            | cons q l ih2 =>
              intro h
              have hq : (p == q.1) = false := beq_eq_false_iff_ne.mpr fun e => h q (List.mem_cons_self ..) e.symm
              show List.lookup p ((q.1, q.2) :: (l ++ _)) = _
              rw [List.lookup_cons, hq]
              exact ih2 fun q2 hq2 => h q2 (List.mem_cons_of_mem _ hq2)
          refine nx _ fun q hq e => ?_
          have hq := List.mem_reverse.mp hq
          have := (List.of_mem_zip (a := q.1) (b := q.2) hq).1
          rw [e] at this
          exact (List.nodup_cons.mp nd).1 this
        | succ i =>
          exact ih us i _ (List.nodup_cons.mp nd).2 (by simpa using hl) (by simpa using e1) (by simpa using e2)
  have := key ps us i [] nd hl e1 e2
  rw [List.append_nil] at this
  exact this
theorem lam_startP {A : Around} {outer : List Env} {E : XK} {scope : Scope} {f c' : Addr} {h₁ : Heap} {tk : Nat} {ps cs : List PySem.Str} {vs ws : List V} {us : List Value} (I : Inv X pins σ H s) (L : LamP ps X.env.scope scope) (e0 : Env0 X.prog X.w X.K X.mg X.base A outer s1 HZ) (hd : A.handled = none)
    (un : Un (frs X.stack) [] H HZ s.heap s1.heap) (hns : h₁.Ns s1.heap.objs.size fun y => (ps.zip us).reverse.lookup y) (kp : ∀ b o, s1.heap.get? b = some o → h₁.get? b = some o)
    (r : Vals vs us) (hl : vs.length = ps.length) (hc : ∀ (j : Nat) (x : PySem.Str), cs[j]? = some x → ∃ (i : Nat) (w : V), X.N[i]? = some x ∧ ws[j]? = some w ∧ σ[i]? = some (some w)) (hcl : ws.length = cs.length) (hnoc : ∀ y ∈ ps, y ∉ cs) :
    Inv (lamCxP X (ps ++ cs) A outer s1 HZ E scope f c') [] (vs.map some ++ ws.map some) HZ { s1 with heap := h₁, toks := tk } := by
  have hfree := L.has I.ok
  have cm : ∀ {y c}, (cloFrom X.env.cells scope.names []).lookup y = some c → X.env.cells.lookup y = some c := fun {y c} e => by
    rcases cloFrom_mem (PySem.mem_of_lookup e) with hm | ⟨h1, h2⟩
    · cases hm
    · obtain ⟨c1, hc⟩ := hfree _ h1 rfl
      have hc : X.env.cells.lookup y = some c1 := hc
      have e2 : c = c1 := by
        rw [h2, hc] <;> rfl
      rw [e2]
      exact hc
  have look : ∀ {y}, scope.names.lookup y = some .free → ∃ c, (cloFrom X.env.cells scope.names []).lookup y = some c := fun {y} hl => by
    have hy : (y, NameKind.free) ∈ scope.names := PySem.mem_of_lookup hl
    exact mem_lookup (cloFrom_has (cells := X.env.cells) (acc := []) hy)
  have cellK : ∀ {c : Addr} {v : Option Value}, H c = none → s.heap.IsCell c v → h₁.IsCell c v := fun {c v} n ⟨o, ho, hd⟩ => by
    obtain ⟨sl, q⟩ := un.any ho n (by simp)
    exact ⟨_, kp _ _ q, hd⟩
  have noA : ∀ b : Addr, b ∉ (lamCxP X (ps ++ cs) A outer s1 HZ E scope f c').ex := fun b z => absurd (show b ∈ ([] : List Addr) from z) (by simp)
  have hul : us.length = ps.length := by rw [← Paired.length r, hl]
  refine ⟨⟨e0.mod, L.kind, rfl, rfl, Nat.le_refl _, fun y z c e1 e2 => I.ok.inj y z c (cm e1) (cm e2), fun y hy => ?_, fun y c z _ => ?_, fun _ => hd, Around.frames_deeper e0.frames, .inr ⟨rfl, rfl⟩, fun b z => absurd z (noA b), e0.bs, e0.bsz, fun b _ _ => noA b,
      fun b z => absurd z (noA b), e0.funs, e0.frf⟩,
    rfl, e0.bare, Un.kept kp, ⟨_, hns, fun i y v e1 e2 e3 => ?_⟩, fun y c e => ?_, e0.hok.fresh (Nat.le_refl _), fun y c e => ?_, fun q hq => absurd (show q ∈ ([] : List (Addr × Obj)) ++ [] from hq) (by simp), e0.hok.kept kp, by show (vs.map some ++ ws.map some).length = (ps ++ cs).length; simp [hl, hcl]⟩
  · have hy : scope.names.lookup y = some .cell ∨ scope.names.lookup y = some .free := hy
    rcases hy with hy | hy
    · exact absurd rfl (L.noc _ (PySem.mem_of_lookup hy))
    · exact look hy
  · have z : false = true := z
    cases z
  · have e1 : (ps ++ cs)[i]? = some y := e1
    have e3 : Vis scope y := e3
    by_cases hi : i < ps.length
    · rw [List.getElem?_append_left hi] at e1
      rw [List.getElem?_append_left (by rw [List.length_map, hl]; exact hi), List.getElem?_map] at e2
      have hv : vs[i]? = some v := by
        cases q : vs[i]? with
        | none => rw [q] at e2; cases e2
        | some a => rw [q] at e2; cases e2; rfl
      obtain ⟨u, hu, rv⟩ := r.get hv
      exact ⟨u, rv, .inl ⟨L.par y (List.mem_of_getElem? e1), zip_look L.nd hul e1 hu⟩⟩
    · rw [List.getElem?_append_right (by omega)] at e1
      rw [List.getElem?_append_right (by rw [List.length_map, hl]; omega), List.length_map, hl, List.getElem?_map] at e2
      obtain ⟨i2, w, n2, hw, hσ⟩ := hc _ y e1
      rw [hw] at e2
      have e2 : w = v := Option.some.inj (Option.some.inj e2)
      rw [e2] at hσ
      rcases e3 with k | k | k
      · -- a captured name that is a parameter, too: not here
        have hp := L.loc y k
        exact (hnoc y hp (List.mem_of_getElem? e1)).elim
      · exact absurd rfl (L.noc _ (PySem.mem_of_lookup k))
      · obtain ⟨m, hn, hlk⟩ := I.loc
        have hvis : Vis X.env.scope y := (L.free _ (PySem.mem_of_lookup k) rfl).elim (fun k => .inr (.inl k)) (fun k => .inr (.inr k))
        obtain ⟨w', r', q⟩ := hlk i2 y v n2 hσ hvis
        obtain ⟨c2, h2⟩ := look k
        refine ⟨w', r', .inr ⟨.inr k, c2, h2, ?_⟩⟩
        have c1 := cm h2
        rcases q with ⟨k', _⟩ | ⟨_, c3, e', z⟩
        · have k' : X.env.scope.names.lookup y = some .local := k'
          rcases L.free _ (PySem.mem_of_lookup k) rfl with k2 | k2 <;> rw [show X.env.scope.names.lookup y = _ from k2] at k' <;> cases k'
        · rw [c1] at e'
          cases e'
          exact cellK (I.freeC y _ c1) z
  · obtain ⟨w', z⟩ := I.cell y c (cm e)
    exact ⟨w', cellK (I.freeC y c (cm e)) z⟩
  · obtain ⟨v, o, ho, hd⟩ := I.cell y c (cm e)
    exact un.free c o ho (I.freeC y c (cm e)) (by simp)
/-- what a lambda does, from where it stands -/
theorem acts_lam {k : Nat} {params : Arguments} {body : Expr} {scope : Scope} {f c' : Addr} {pm ctv : Value} {ps cs : List PySem.Str} {ws : List V} {tb : XK → TE} (I : Inv X pins σ H s) (L : LamP ps X.env.scope scope)
    (hf : s.heap.get? f = some (PySem.W.kla_obj "<lambda>" (X.env.qual ++ "<lambda>") params body scope (cloFrom X.env.cells scope.names []) pm c' ctv)) (hfn : H f = none) (hfr : f ∉ frs X.stack) (hco : H c' = some (LamX.CodeO c' (X.env.qual ++ "<lambda>")))
    (hbind : ∀ (q : PySem.Str) (cl : List (PySem.Str × Addr)) (pm cv ctv : Value) (us : List Value), us.length = ps.length → bindArgs (PySem.W.kla_fn "<lambda>" q params body scope cl pm cv ctv) ⟨us, []⟩ = pure (ps.zip us))
    (hc : ∀ (j : Nat) (x : PySem.Str), cs[j]? = some x → ∃ (i : Nat) (w : V), X.N[i]? = some x ∧ ws[j]? = some w ∧ σ[i]? = some (some w)) (hcl : ws.length = cs.length) (hnoc : ∀ y ∈ ps, y ∉ cs)
    (hbody : ∀ (A : Around) (outer : List Env) (s1 : Shared) (HZ : Hp) (E : XK), Room k (A.deeper (LamX.lamEnv X scope s1.heap.objs.size f c')) → PE (lamCxP X (ps ++ cs) A outer s1 HZ E scope f c') body (tb E)) :
    Acts X.prog X.w X.K X.mg X.base (frs X.stack) H s (k + 1) f (fun vs HZ Q E => vs.length = ps.length ∧ tb E (vs.map some ++ ws.map some) HZ Q) := by
  refine ⟨⟨_, _, _, _, hf⟩, hfn, hfr, fun A outer s1 HZ us vs Q E hr e0 un kc r ht => ?_⟩
  obtain ⟨hl, ht⟩ := ht
  have of1 : s1.heap.get? f = some (PySem.W.kla_obj "<lambda>" (X.env.qual ++ "<lambda>") params body scope (cloFrom X.env.cells scope.names []) pm c' ctv) := un.keep f _ hf hfn hfr (by simp)
  obtain ⟨⟨oc, vs2, t, hoc, hdc, hvc⟩, _, _⟩ := e0.hok c' _ (kc _ _ hco)
  have lim : s1.heap.NoLimit := e0.mod.nolimit.keeps fun b o e => (e0.bs b o e).1
  have hul : us.length = ps.length := by rw [← Paired.length r, hl]
  refine PySem.W.kla_callFunE hr.depth of1 rfl L.co L.gen rfl ⟨c', oc, vs2, t, rfl, hoc, hdc, hvc⟩ ?_
  rw [hbind _ _ _ _ _ us hul]
  refine wpAny_pure (wpAny_newFunctionEnv L.noc (fun y hy => L.par y.1 (List.of_mem_zip (a := y.1) (b := y.2) hy).1) (fun h₁ hns hsb => ⟨lim.fresh _ hsb, ?_⟩) L.kind)
  show codeAny _ _ (.expr body (LamX.lamEnv X scope s1.heap.objs.size f c')) _ _
  have kp : ∀ b o, s1.heap.get? b = some o → h₁.get? b = some o := fun b o e => hsb.extBut b o (Nat.ne_of_lt (Heap.lt_size e)) (Heap.get?_push_of_some _ e)
  have J : Inv (lamCxP X (ps ++ cs) A outer s1 HZ E scope f c') [] (vs.map some ++ ws.map some) HZ { s1 with heap := h₁, toks := s1.toks + (ps.zip us).length } :=
    lam_startP I L e0 hr.hd un hns kp r hl hc hcl hnoc
  refine PySem.W.kla_codeExpr (wpAny_mono ((hbody A outer s1 HZ E (hr.deeper _)).run [] _ _ HZ Q J ht) (fun v s' hq => ?_) fun e s' hq => hq)
  obtain ⟨w', H', J', rv, q⟩ := hq
  exact ⟨w', H', J'.os, J'.bare, J'.base, J'.hok, rv, q⟩
end
/-- a lambda, handed over -/
theorem pf_lam {X : Cx} {k : Nat} {T : List (Addr × PySem.Str)} {c P : Addr} {ps cs : List PySem.Str} {cap : List Nat} {params : Arguments} {body : Expr} {scope : Scope} {lpos : Pos} {tb : XK → TE} (TB : LamX.TabB X.base X.mg c P) (hcode : X.env.code = .ref c)
    (hmT : (P, X.env.qual ++ "<lambda>") ∈ T) (hu : ∀ p ∈ T, p.1 = P → p.2 = X.env.qual ++ "<lambda>") (L : LamP ps X.env.scope scope) (hdef : defaultsOf params X.env = ([], []))
    (hbind : ∀ (q : PySem.Str) (cl : List (PySem.Str × Addr)) (pm cv ctv : Value) (us : List Value), us.length = ps.length → bindArgs (PySem.W.kla_fn "<lambda>" q params body scope cl pm cv ctv) ⟨us, []⟩ = pure (ps.zip us))
    (hcap : ∀ (j : Nat) (x : PySem.Str), cs[j]? = some x → ∃ i, cap[j]? = some i ∧ X.N[i]? = some x) (hnoc : ∀ y ∈ ps, y ∉ cs)
    (hbody : ∀ (A : Around) (outer : List Env) (s1 : Shared) (HZ : Hp) (E : XK) (f c' : Addr), Room k (A.deeper (LamX.lamEnv X scope s1.heap.objs.size f c')) → PE (lamCxP X (ps ++ cs) A outer s1 HZ E scope f c') body (tb E))
    (hst : X.stack = X.env :: X.outer := by rfl) (hfr : X.env.frame = some X.env.locals := by rfl) :
    PF X (k + 1) (.Lambda params body scope lpos) (fun σ H R => LamX.Tabs T H ∧ ∃ ws : List V, ws.length = cs.length ∧ (∀ (j i : Nat), cap[j]? = some i → ∃ w, ws[j]? = some w ∧ σ[i]? = some (some w)) ∧
      ∀ f H1, LamX.ExtN H H1 → LamX.Tabs T H1 → R f (fun vs HZ Q E => vs.length = ps.length ∧ tb E (vs.map some ++ ws.map some) HZ Q) H1) := by
  refine ⟨fun pins s σ H R I h => ?_⟩
  obtain ⟨hT, ws, hwl, hws, h⟩ := h
  refine LamX.lam_make2 I TB hcode hmT hu hT hdef (L.has I.ok) fun f c' pm' ctv H1 s' I1 eN T1 hf hfn hff hco => ?_
  have nl : f ≠ X.env.locals ∧ f ∉ X.fs := by
    have z : f ∉ List.filterMap (·.frame) (X.env :: X.outer) := by rw [← hst]; exact hff
    rw [List.filterMap_cons, hfr] at z
    exact ⟨fun e => z (by rw [e]; exact List.mem_cons_self ..), fun e => z (List.mem_cons_of_mem _ e)⟩
  have I2 : Inv X ([(f, PySem.W.kla_obj "<lambda>" (X.env.qual ++ "<lambda>") params body scope (cloFrom X.env.cells scope.names []) pm' c' ctv)] ++ pins) σ H1 s' := I1.pins_of fun p hp => by
    rcases List.mem_append.mp hp with hp | hp
    · rw [List.mem_singleton.mp hp]
      exact ⟨hf, hfn, nl.1, nl.2, fun v z => by cases z⟩
    · exact I1.pin p (List.mem_append_right _ hp)
  refine ⟨f, _, H1, _, rfl, I2, ⟨fun pins2 s2 H2 J hp kc _ => ?_⟩, h f H1 eN T1⟩
  obtain ⟨g1, g2, g3, g4, _⟩ := J.pin _ (List.mem_append_right _ (hp _ (List.mem_append_left _ (List.mem_singleton.mpr rfl))))
  refine acts_lam J L g1 g2 hff (kc _ _ hco) hbind (fun j x hx => ?_) hwl hnoc (fun A outer s1 HZ E hr => hbody A outer s1 HZ E f c' hr)
  obtain ⟨i, hi, hN⟩ := hcap j x hx
  obtain ⟨w, hw, hσ⟩ := hws j i hi
  exact ⟨i, w, hN, hw, hσ⟩
/-! ### defs that take functions -/
abbrev SpF := List V → List (Addr × Sp) → Hp → VK → XK → Prop
structure FnOkF (P : Program) (w : World) (K : PySem.W.Frag) (mg : PySem.Str → Option Value) (base : Heap) (CX : CXT) (k j : Nat) (f : Addr) (fd : FuncData) (ps : List PySem.Str) (sp : SpF) : Prop where
  len : ∀ vs fl H Q E, sp vs fl H Q E → vs.length = ps.length
  run : ∀ (A : Around) (outer : List Env) (s : Shared) (H : Hp) (args : Args) (us : List Value) (vs : List V) (fl : List (Addr × Sp)) (Q : VK) (E : XK), Room k A → Env0 P w K mg base A outer s H → BindsTo s fd args (ps.zip us) → Vals vs us → (∀ p ∈ fl, Acts P w K mg base (frs outer) H s j p.1 p.2) → sp vs fl H Q E →
    codeAny (model P w) A (.call (.ref f) args) (CR CX outer P w H s Q E) s
structure KeepsF (P : Program) (w : World) (K : PySem.W.Frag) (mg : PySem.Str → Option Value) (base : Heap) (CX : CXT) (k j : Nat) (x : PySem.Str) (ps : List PySem.Str) (sp : SpF) : Prop where
  ex : ∃ (f : Addr) (fd : FuncData), FnOkF P w K mg base CX k j f fd ps sp ∧ mg x = some (.ref f) ∧ PySem.W.keepIn K (.ref f) = true ∧ Binds K fd ps []
section
variable {P : Program} {w : World} {K : PySem.W.Frag} {mg : PySem.Str → Option Value} {base : Heap}
theorem okF {x qual : PySem.Str} {st : Stmt} {f : Addr} {fd : FuncData} {N ps : List PySem.Str} {k j : Nat} {sp : SpF} (F : Fun K x qual st f fd) (S : FnScope N ps (defScope st)) (len : ∀ vs fl H Q E, sp vs fl H Q E → vs.length = ps.length)
    (hbody : ∀ (cdv : Value) (A : Around) (outer : List Env) (s : Shared) (H : Hp) (vs : List V) (fl : List (Addr × Sp)) (Q : VK) (E : XK), Room k (A.deeper (envOfC qual (defScope st) s.heap.objs.size f cdv)) → (∀ p ∈ fl, Acts P w K mg base (frs outer) H s j p.1 p.2) → sp vs fl H Q E →
      ∃ t, PSs (cxOf (L2.CX P w) P w K mg base N qual (defScope st) f cdv A outer s H E) (defBody st) t ∧ t { nx := fun _ H' => Q .non H', rt := Q } (L2.start N vs) H) : FnOkF P w K mg base (L2.CX P w) (k + 1) j f fd ps sp := by
  obtain ⟨oc, od, kV, doc, pm, an, cdv, ct, osl, rfl, lk, hcd⟩ := F.ex
  refine ⟨len, fun A outer s H args us vs fl Q E hr e0 hb r ha hs => LamX.run_ofS (CX := L2.CX P w) lk hcd S hr e0 hb r (len _ _ _ _ _ hs) fun hr' => ?_⟩
  exact hbody cdv A outer s H vs fl Q E hr' ha hs
theorem keepsF {x : PySem.Str} {st : Stmt} {ps : List PySem.Str} {sp : SpF} {k j : Nat} {N : List PySem.Str} (D : DefAt K mg x st ps) (S : FnScope N ps (defScope st)) (len : ∀ vs fl H Q E, sp vs fl H Q E → vs.length = ps.length)
    (hbody : ∀ (f : Addr) (cdv : Value) (A : Around) (outer : List Env) (s : Shared) (H : Hp) (vs : List V) (fl : List (Addr × Sp)) (Q : VK) (E : XK), Room k (A.deeper (envOfC x (defScope st) s.heap.objs.size f cdv)) → (∀ p ∈ fl, Acts P w K mg base (frs outer) H s j p.1 p.2) → sp vs fl H Q E →
      ∃ t, PSs (cxOf (L2.CX P w) P w K mg base N x (defScope st) f cdv A outer s H E) (defBody st) t ∧ t { nx := fun _ H' => Q .non H', rt := Q } (L2.start N vs) H) : KeepsF P w K mg base (L2.CX P w) (k + 1) j x ps sp := by
  obtain ⟨f, fd, F, m, b⟩ := D.ex
  exact ⟨f, fd, okF F S len (hbody f), m, F.kp, b⟩
end
section
variable {X : Cx} {CX : CXT} {k j i : Nat} {x : PySem.Str} {ps : List PySem.Str} {sp : SpF} {e : Expr} {es : List Expr} {p pos : Pos} {t : L2.St → Hp → (List V → List (Addr × Sp) → Hp → Prop) → Prop} {E : XK}
theorem pe_fcall (F : KeepsF X.prog X.w X.K X.mg X.base CX k j x ps sp) (hr : Room i X.A) (hx : Passes CX X E) (ha : PAF X j (e :: es) t) (hj : k ≤ i := by decide) (hg : Gl X x := by rfl)
    (hdb : (x == ("__debug__" : PySem.Str)) = false := by decide) (he : starEach (e :: es) X.env = (false, eval e X.env) :: starEach es X.env := by rfl) (hpl : (backTo pos (starEach es X.env)).any (·.1) = false := by rfl) :
    PE X (.Call (.Name x p) (e :: es) [] pos) (fun σ H Q => t σ H fun vs fl H1 => Kc X.H_0 H1 ∧ sp vs fl H1 Q E) := by
  obtain ⟨f, fd, F, m, kp, b⟩ := F.ex
  refine ⟨fun pins s σ H Q I h => wpAny_Call_Name_kw (ld_glob I hg m ?_ hdb)⟩
  refine PySem.W.callWith_K (h₀ := X.base) I.ok.mod.kin kp (thn (ha.run pos pins s σ H _ I h) fun us s1 ⟨vs, fl, H1, ps2, I1, r, hG, kc, q⟩ => ⟨I1.kIn, ?_⟩) he hpl
  have I0 : Inv X pins σ H1 s1 := I1.pins_of fun p hp => I1.pin p (List.mem_append_right _ (List.mem_append_right _ hp))
  have hl : (us ++ []).length = ps.length := by
    rw [List.append_nil, ← r.length]
    exact F.len _ _ _ _ _ q
  have bt := b s1 us I1.kIn hl
  rw [List.append_nil] at bt
  refine wpAny_call (codeAny_mono (F.run X.A X.stack s1 H1 ⟨us, []⟩ us vs fl Q E (hr.mono hj) I1.env0 bt r (fun p hp => (hG p hp).at_ _ s1 H1 I1 (fun p hp => hp) (.refl _) kc) q) fun r2 s' hq => ?_)
  cases r2 with
  | error e => exact hx pins σ H1 s1 e s' I0 hq
  | ok fl =>
    cases fl with
    | ret u => exact I0.after hq
    | next => exact False.elim hq
    | brk => exact False.elim hq
    | cont => exact False.elim hq
end
end Bz

namespace Bz
open PySem PySem.Spec PyProof.Rows L2
/-! ### expressions: letters and starred parts, one behind the other -/
inductive Ex where
  | nil
  | ltr (c : Nat) (r : Ex)
  | star (e r : Ex)
  deriving DecidableEq
namespace Ex
def text : Ex → List Nat
  | nil => []
  | ltr c r => c :: text r
  | star e r => 40 :: (text e ++ (41 :: 42 :: text r))
def app : Ex → Ex → Ex
  | nil, b => b
  | ltr c r, b => ltr c (app r b)
  | star e r, b => star e (app r b)
def stars : Ex → Nat
  | nil => 0
  | ltr _ r => stars r
  | star e r => stars e + 1 + stars r
def lets : Ex → Nat
  | nil => 0
  | ltr _ r => lets r + 1
  | star e r => lets e + lets r
def rep (n : Nat) (l : List Nat) : List Nat := (List.replicate n l).flatten
def row (n : Nat) : Ex → List Nat
  | nil => []
  | ltr c r => c :: row n r
  | star e r => rep n (row n e) ++ row n r
/-- letters are letters, brackets are not empty -/
def Good : Ex → Prop
  | nil => True
  | ltr c r => (97 ≤ c ∧ c ≤ 122) ∧ Good r
  | star e r => e ≠ nil ∧ Good e ∧ Good r
theorem app_nil : ∀ a : Ex, a.app nil = a
  | nil => rfl
  | ltr c r => by show ltr c (r.app nil) = _; rw [app_nil r]
  | star e r => by show star e (r.app nil) = _; rw [app_nil r]
theorem app_assoc : ∀ a b c : Ex, (a.app b).app c = a.app (b.app c)
  | nil, _, _ => rfl
  | ltr x r, b, c => by show ltr x ((r.app b).app c) = ltr x (r.app (b.app c)); rw [app_assoc r]
  | star e r, b, c => by show star e ((r.app b).app c) = star e (r.app (b.app c)); rw [app_assoc r]
theorem text_app : ∀ a b : Ex, (a.app b).text = a.text ++ b.text
  | nil, _ => rfl
  | ltr x r, b => by show x :: (r.app b).text = _; rw [text_app r]; rfl
  | star e r, b => by
    show 40 :: (e.text ++ (41 :: 42 :: (r.app b).text)) = 40 :: (e.text ++ (41 :: 42 :: r.text)) ++ b.text
    rw [text_app r]
    simp
theorem row_app (n : Nat) : ∀ a b : Ex, (a.app b).row n = a.row n ++ b.row n
  | nil, _ => rfl
  | ltr x r, b => by show x :: (r.app b).row n = _; rw [row_app n r]; rfl
  | star e r, b => by
    show rep n (e.row n) ++ (r.app b).row n = rep n (e.row n) ++ r.row n ++ b.row n
    rw [row_app n r, List.append_assoc]
theorem good_app : ∀ {a b : Ex}, (a.app b).Good ↔ a.Good ∧ b.Good
  | nil, _ => ⟨fun h => ⟨True.intro, h⟩, fun h => h.2⟩
  | ltr x r, b => by
    show ((97 ≤ x ∧ x ≤ 122) ∧ (r.app b).Good) ↔ ((97 ≤ x ∧ x ≤ 122) ∧ r.Good) ∧ b.Good
    rw [good_app (a := r)]
    exact ⟨fun ⟨a, b, c⟩ => ⟨⟨a, b⟩, c⟩, fun ⟨⟨a, b⟩, c⟩ => ⟨a, b, c⟩⟩
  | star e r, b => by
    show (e ≠ nil ∧ e.Good ∧ (r.app b).Good) ↔ (e ≠ nil ∧ e.Good ∧ r.Good) ∧ b.Good
    rw [good_app (a := r)]
    exact ⟨fun ⟨a, b, c, d⟩ => ⟨⟨a, b, c⟩, d⟩, fun ⟨⟨a, b, c⟩, d⟩ => ⟨a, b, c, d⟩⟩
theorem stars_app : ∀ a b : Ex, (a.app b).stars = a.stars + b.stars
  | nil, b => (Nat.zero_add _).symm
  | ltr x r, b => stars_app r b
  | star e r, b => by
    show e.stars + 1 + (r.app b).stars = e.stars + 1 + r.stars + b.stars
    rw [stars_app r, Nat.add_assoc (e.stars + 1)]
theorem lets_app : ∀ a b : Ex, (a.app b).lets = a.lets + b.lets
  | nil, b => (Nat.zero_add _).symm
  | ltr x r, b => by
    show (r.app b).lets + 1 = r.lets + 1 + b.lets
    rw [lets_app r]
    omega
  | star e r, b => by
    show e.lets + (r.app b).lets = e.lets + r.lets + b.lets
    rw [lets_app r, Nat.add_assoc]
theorem app_ne {a b : Ex} (h : a ≠ nil ∨ b ≠ nil) : a.app b ≠ nil := by
  cases a with
  | nil => exact h.elim (fun z => absurd rfl z) id
  | ltr => exact fun z => by cases z
  | star => exact fun z => by cases z
/-- the first starred part to end of those with a bad expression in the brackets -/
def fb (bad : Ex → Bool) : Ex → Option Ex
  | nil => none
  | ltr _ r => fb bad r
  | star e r => match fb bad e with
    | some x => some x
    | none => if bad e then some e else fb bad r
theorem fb_none : ∀ (e : Ex), fb (fun _ => false) e = none
  | nil => rfl
  | ltr _ r => fb_none r
  | star e r => by
    unfold fb
    rw [fb_none e, fb_none r]
    rfl
/-- one part -/
inductive Single : Ex → Prop
  | ltr (c : Nat) : Single (ltr c nil)
  | star (e : Ex) : Single (star e nil)
def comb : List Ex → Ex
  | [] => nil
  | p :: ps => p.app (comb ps)
theorem comb_app : ∀ a b : List Ex, comb (a ++ b) = (comb a).app (comb b)
  | [], _ => rfl
  | p :: ps, b => by
    show p.app (comb (ps ++ b)) = (p.app (comb ps)).app (comb b)
    rw [comb_app ps, app_assoc]
theorem comb_one (p : Ex) : comb [p] = p := app_nil p
theorem comb_snoc (a : List Ex) (p : Ex) : comb (a ++ [p]) = (comb a).app p := by rw [comb_app, comb_one]
theorem comb_ne {a : List Ex} (h : ∀ p ∈ a, Single p) (n : a ≠ []) : comb a ≠ nil := by
  cases a with
  | nil => exact absurd rfl n
  | cons p ps =>
    refine app_ne (.inl ?_)
    cases h p (List.mem_cons_self ..) <;> exact fun z => by cases z
end Ex
/-! ### places in an expression -/
/-- an open bracket: the parts ahead of it, its place, what is to come behind its starred part -/
structure Fr where
  done : List Ex
  at_ : Nat
  todo : Ex
namespace Zp
open Ex
/-- the text up to here; the frames innermost first -/
def before : List Fr → List Ex → List Nat
  | [], d => (comb d).text
  | f :: fs, d => before fs f.done ++ 40 :: (comb d).text
def after : List Fr → Ex → List Nat
  | [], t => t.text
  | f :: fs, t => t.text ++ 41 :: 42 :: after fs f.todo
def whole : List Fr → Ex → Ex
  | [], x => x
  | f :: fs, x => whole fs ((comb f.done).app (Ex.star x f.todo))
/-- the first bad one of what has not ended yet, behind what is to come here -/
def tail (bad : Ex → Bool) : List Fr → Ex → Option Ex
  | [], _ => none
  | f :: fs, x => if bad x then some x else match fb bad f.todo with
    | some y => some y
    | none => tail bad fs (((comb f.done).app (Ex.star x Ex.nil)).app f.todo)
def rest (bad : Ex → Bool) (fs : List Fr) (d t : Ex) : Option Ex := match fb bad t with
  | some x => some x
  | none => tail bad fs (d.app t)
structure Ok (T : List Nat) (e : Ex) (bad : Ex → Bool) (fs : List Fr) (d : List Ex) (t : Ex) : Prop where
  txt : T = before fs d ++ after fs t
  all : whole fs ((comb d).app t) = e
  one : ∀ p ∈ d, Single p
  ones : ∀ f ∈ fs, ∀ p ∈ f.done, Single p
  gd : (comb d).Good
  gt : t.Good
  gf : ∀ f ∈ fs, (comb f.done).Good ∧ f.todo.Good
  ne : fs ≠ [] → d ≠ [] ∨ t ≠ Ex.nil
  at_ : ∀ (f : Fr) (gs : List Fr), (f :: gs) <:+ fs → f.at_ = (before gs f.done).length
  fst : fb bad e = rest bad fs (comb d) t
section
variable {T : List Nat} {e : Ex} {bad : Ex → Bool} {fs : List Fr} {d : List Ex} {t : Ex}
theorem start (h : e.text = T) (g : e.Good) : Ok T e bad [] [] e :=
  ⟨h.symm, rfl, fun p hp => (by cases hp), fun f hf => (by cases hf), True.intro, g, fun f hf => (by cases hf), fun z => absurd rfl z, fun f gs h => absurd (List.suffix_nil.mp h) (by simp), by
    unfold rest
    cases fb bad e <;> rfl⟩
theorem before_snoc (fs : List Fr) (d : List Ex) (p : Ex) : before fs (d ++ [p]) = before fs d ++ p.text := by
  cases fs with
  | nil => show (comb (d ++ [p])).text = _; rw [comb_snoc, text_app]; rfl
  | cons f fs =>
    show before fs f.done ++ 40 :: (comb (d ++ [p])).text = before fs f.done ++ 40 :: (comb d).text ++ p.text
    rw [comb_snoc, text_app]
    simp
theorem Ok.sign (h : Ok T e bad fs d t) (j : Nat) : T[(before fs d).length + j]? = (after fs t)[j]? := by
  rw [h.txt, List.getElem?_append_right (by omega), Nat.add_sub_cancel_left]
theorem Ok.letter {c : Nat} {r : Ex} (h : Ok T e bad fs d (Ex.ltr c r)) : Ok T e bad fs (d ++ [Ex.ltr c Ex.nil]) r ∧ T[(before fs d).length]? = some c ∧ (97 ≤ c ∧ c ≤ 122) ∧ (before fs (d ++ [Ex.ltr c Ex.nil])).length = (before fs d).length + 1 := by
  have e1 : (comb (d ++ [Ex.ltr c Ex.nil])).app r = (comb d).app (Ex.ltr c r) := by
    rw [comb_snoc, app_assoc]
    rfl
  refine ⟨⟨?_, by rw [e1]; exact h.all, ?_, h.ones, ?_, h.gt.2, h.gf, fun _ => .inl (by simp), h.at_, ?_⟩, ?_, h.gt.1, by rw [before_snoc]; simp [Ex.text]⟩
  · rw [before_snoc, h.txt]
    cases fs with
    | nil => simp [after, Ex.text]
    | cons f fs => simp [after, Ex.text]
  · intro p hp
    rcases List.mem_append.mp hp with hp | hp
    · exact h.one p hp
    · rw [List.mem_singleton.mp hp]
      exact .ltr c
  · rw [comb_snoc]
    exact good_app.mpr ⟨h.gd, h.gt.1, True.intro⟩
  · rw [h.fst]
    unfold rest
    rw [e1]
    rfl
  · have := h.sign 0
    rw [Nat.add_zero] at this
    rw [this]
    cases fs <;> rfl
theorem Ok.open {x r : Ex} (h : Ok T e bad fs d (Ex.star x r)) : Ok T e bad (⟨d, (before fs d).length, r⟩ :: fs) [] x ∧ T[(before fs d).length]? = some 40 ∧ (before (⟨d, (before fs d).length, r⟩ :: fs) []).length = (before fs d).length + 1 := by
  have e1 : ((comb d).app (Ex.star x Ex.nil)).app r = (comb d).app (Ex.star x r) := by
    rw [app_assoc]
    rfl
  refine ⟨⟨?_, ?_, fun p hp => (by cases hp), ?_, True.intro, h.gt.2.1, ?_, fun _ => .inr h.gt.1, ?_, ?_⟩, ?_, by simp [before, comb, Ex.text]⟩
  · rw [h.txt]
    show _ = (before fs d ++ 40 :: (comb []).text) ++ (x.text ++ 41 :: 42 :: after fs r)
    cases fs <;> simp [after, Ex.text, comb]
  · show whole fs ((comb d).app (Ex.star (Ex.nil.app x) r)) = e
    exact h.all
  · intro f hf
    rcases List.mem_cons.mp hf with z | z
    · rw [z]
      exact h.one
    · exact h.ones f z
  · intro f hf
    rcases List.mem_cons.mp hf with z | z
    · rw [z]
      exact ⟨h.gd, h.gt.2.2⟩
    · exact h.gf f z
  · intro f gs hs
    rcases List.suffix_cons_iff.mp hs with z | z
    · obtain ⟨rfl, rfl⟩ := List.cons.inj z
      rfl
    · exact h.at_ f gs z
  · rw [h.fst]
    unfold rest
    show (match fb bad (Ex.star x r) with | some x => some x | none => tail bad fs ((comb d).app (Ex.star x r))) = (match fb bad x with | some x => some x | none => if bad x then some x else match fb bad r with | some y => some y | none => tail bad fs (((comb d).app (Ex.star x Ex.nil)).app r))
    rw [e1, show fb bad (Ex.star x r) = (match fb bad x with | some y => some y | none => if bad x then some x else fb bad r) from rfl]
    cases fb bad x with
    | some y => rfl
    | none =>
      cases bad x with
      | true => rfl
      | false => rfl
  · have := h.sign 0
    rw [Nat.add_zero] at this
    rw [this]
    cases fs <;> rfl
theorem Ok.close {f : Fr} (h : Ok T e bad (f :: fs) d Ex.nil) :
    T[(before (f :: fs) d).length]? = some 41 ∧ T[(before (f :: fs) d).length + 1]? = some 42 ∧ d ≠ [] ∧ comb d ≠ Ex.nil ∧ (T.drop f.at_).take ((before (f :: fs) d).length - f.at_) = 40 :: (comb d).text ∧
    (bad (comb d) = true → fb bad e = some (comb d)) ∧ (bad (comb d) = false → Ok T e bad fs (f.done ++ [Ex.star (comb d) Ex.nil]) f.todo) ∧ (before fs (f.done ++ [Ex.star (comb d) Ex.nil])).length = (before (f :: fs) d).length + 2 := by
  have dn : d ≠ [] := (h.ne (by simp)).elim id fun z => absurd rfl z
  have cn : comb d ≠ Ex.nil := comb_ne h.one dn
  have at0 : f.at_ = (before fs f.done).length := h.at_ f fs (List.suffix_refl _)
  have bl : (before (f :: fs) d).length = (before fs f.done).length + ((comb d).text.length + 1) := by
    show (before fs f.done ++ 40 :: (comb d).text).length = _
    simp
  have hr : rest bad (f :: fs) (comb d) Ex.nil = if bad (comb d) then some (comb d) else match fb bad f.todo with | some y => some y | none => tail bad fs (((comb f.done).app (Ex.star (comb d) Ex.nil)).app f.todo) := by
    show tail bad (f :: fs) ((comb d).app Ex.nil) = _
    rw [app_nil]
    rfl
  refine ⟨h.sign 0, h.sign 1, dn, cn, ?_, fun hb => ?_, fun hb => ?_, ?_⟩
  · rw [h.txt, bl, at0]
    show List.take _ (List.drop _ ((before fs f.done ++ 40 :: (comb d).text) ++ after (f :: fs) Ex.nil)) = _
    rw [List.append_assoc, List.drop_append_of_le_length (by omega), List.drop_length, List.nil_append, Nat.add_sub_cancel_left, List.take_append_of_le_length (by simp), List.take_of_length_le (by simp)]
  · rw [h.fst, hr, hb]
    rfl
  · obtain ⟨g1, g2⟩ := h.gf f (List.mem_cons_self ..)
    refine ⟨?_, ?_, ?_, fun f' hf' => h.ones f' (List.mem_cons_of_mem _ hf'), ?_, g2, fun f' hf' => h.gf f' (List.mem_cons_of_mem _ hf'), fun _ => .inl (by simp), fun f' gs hs => h.at_ f' gs (List.suffix_cons_iff.mpr (.inr hs)), ?_⟩
    · rw [before_snoc]
      have := h.txt
      rw [this]
      show (before fs f.done ++ 40 :: (comb d).text) ++ ([] ++ 41 :: 42 :: after fs f.todo) = _
      simp [Ex.text]
    · have := h.all
      rw [app_nil] at this
      rw [comb_snoc, app_assoc]
      exact this
    · intro p hp
      rcases List.mem_append.mp hp with hp | hp
      · exact h.ones f (List.mem_cons_self ..) p hp
      · rw [List.mem_singleton.mp hp]
        exact .star _
    · rw [comb_snoc]
      exact good_app.mpr ⟨g1, cn, h.gd, True.intro⟩
    · rw [h.fst, hr, hb]
      unfold rest
      rw [comb_snoc]
      rfl
  · rw [before_snoc, bl, List.length_append]
    show (before fs f.done).length + (40 :: ((comb d).text ++ [41, 42])).length = _
    simp
    omega
theorem Ok.end (h : Ok T e bad [] d Ex.nil) : T.length = (before [] d).length ∧ comb d = e ∧ fb bad e = none := by
  refine ⟨?_, ?_, ?_⟩
  · rw [h.txt]
    show ((comb d).text ++ []).length = (comb d).text.length
    simp
  · have := h.all
    rw [app_nil] at this
    exact this
  · rw [h.fst]
    rfl
/-- inside the text something is to come -/
theorem Ok.more (h : Ok T e bad fs d t) (l : (before fs d).length < T.length) : (∃ c r, t = Ex.ltr c r) ∨ (∃ x r, t = Ex.star x r) ∨ (t = Ex.nil ∧ ∃ f gs, fs = f :: gs) := by
  cases t with
  | ltr c r => exact .inl ⟨c, r, rfl⟩
  | star x r => exact .inr (.inl ⟨x, r, rfl⟩)
  | nil =>
    cases fs with
    | cons f gs => exact .inr (.inr ⟨rfl, f, gs, rfl⟩)
    | nil =>
      have := h.end.1
      omega
/-- at the text's end nothing is -/
theorem Ok.over (h : Ok T e bad fs d t) (l : (before fs d).length = T.length) : fs = [] ∧ t = Ex.nil := by
  have := congrArg List.length h.txt
  rw [List.length_append, l] at this
  have z : after fs t = [] := List.length_eq_zero_iff.mp (by omega)
  cases fs with
  | cons f fs =>
    cases t <;> cases z
  | nil =>
    refine ⟨rfl, ?_⟩
    cases t with
    | nil => rfl
    | ltr => cases z
    | star => cases z
end
end Zp
end Bz

namespace Bz
open PySem PySem.Spec PyProof.Rows L2
/-! ### defs that make lambdas: their code object, with the table in it -/
/-- a def whose code object stands at c -/
structure FunL (K : PySem.W.Frag) (x qual : PySem.Str) (st : Stmt) (f : Addr) (fd : FuncData) (c : Addr) : Prop where
  ex : ∃ (oc : Value) (od : Option Addr) (kV doc pm : Value) (an : Option Addr) (ct : Value) (osl : Array (Option Value)),
    fd = PySem.W.fnOf x qual (defArgs st) (defBody st) (defScope st) .none kV doc pm an (.ref c) ct ∧ K.lookup f = some ⟨oc, od, .func fd, osl⟩ ∧ PySem.W.codeIn K (.ref c) qual = true
  kp : PySem.W.keepIn K (.ref f) = true
structure DefAtL (K : PySem.W.Frag) (mg : PySem.Str → Option Value) (x : PySem.Str) (st : Stmt) (ps : List PySem.Str) (c : Addr) : Prop where
  ex : ∃ (f : Addr) (fd : FuncData), FunL K x x st f fd c ∧ mg x = some (.ref f) ∧ Binds K fd ps []
section
variable {P : Program} {w : World} {K : PySem.W.Frag} {mg : PySem.Str → Option Value} {base : Heap} {x : PySem.Str} {st : Stmt} {ps : List PySem.Str} {c : Addr} {k : Nat} {sp : Sp} {N : List PySem.Str}
theorem keeps0L (D : DefAtL K mg x st ps c) (S : FnScope N ps (defScope st)) (len : ∀ vs H Q E, sp vs H Q E → vs.length = ps.length)
    (hbody : ∀ (f : Addr) (A : Around) (outer : List Env) (s : Shared) (H : Hp) (vs : List V) (Q : VK) (E : XK), Room k (A.deeper (envOfC x (defScope st) s.heap.objs.size f (.ref c))) → sp vs H Q E →
      ∃ t, PSs (cxOf CX0 P w K mg base N x (defScope st) f (.ref c) A outer s H E).nox (defBody st) t ∧ t { nx := fun _ H' => Q .non H', rt := Q } (L2.start N vs) H) : Keeps P w K mg base CX0 (k + 1) x ps sp := by
  obtain ⟨f, fd, ⟨⟨oc, od, kV, doc, pm, an, ct, osl, rfl, lk, hcd⟩, kp⟩, m, b⟩ := D.ex
  refine ⟨f, _, fn_of lk hcd S len fun A outer s H vs Q E hr hsp => ?_, m, kp, b⟩
  obtain ⟨t, h, q⟩ := hbody f A outer s H vs Q E hr hsp
  exact ⟨t, h.nox, q⟩
theorem keepsXL (D : DefAtL K mg x st ps c) (S : FnScope N ps (defScope st)) (len : ∀ vs H Q E, sp vs H Q E → vs.length = ps.length)
    (hbody : ∀ (f : Addr) (A : Around) (outer : List Env) (s : Shared) (H : Hp) (vs : List V) (Q : VK) (E : XK), Room k (A.deeper (envOfC x (defScope st) s.heap.objs.size f (.ref c))) → sp vs H Q E →
      ∃ t, PSs (cxOf (L2.CX P w) P w K mg base N x (defScope st) f (.ref c) A outer s H E) (defBody st) t ∧ t { nx := fun _ H' => Q .non H', rt := Q } (L2.start N vs) H) : Keeps P w K mg base (L2.CX P w) (k + 1) x ps sp := by
  obtain ⟨f, fd, ⟨⟨oc, od, kV, doc, pm, an, ct, osl, rfl, lk, hcd⟩, kp⟩, m, b⟩ := D.ex
  exact ⟨f, _, fn_of lk hcd S len fun A outer s H vs Q E hr hsp => hbody f A outer s H vs Q E hr hsp, m, kp, b⟩
end
/-- names captured, by their places -/
def capB (N cs : List PySem.Str) (cap : List Nat) : Bool := decide (cs.length = cap.length) && (cs.zip cap).all fun p => decide (N[p.2]? = some p.1)
theorem cap_by {N cs : List PySem.Str} {cap : List Nat} (h : capB N cs cap = true) : ∀ (j : Nat) (x : PySem.Str), cs[j]? = some x → ∃ i, cap[j]? = some i ∧ N[i]? = some x := by
  unfold capB at h
  rw [Bool.and_eq_true, decide_eq_true_eq, List.all_eq_true] at h
  intro j x hx
  have hj : j < cap.length := by rw [← h.1]; exact (List.getElem?_eq_some_iff.mp hx).1
  obtain ⟨i, hi⟩ : ∃ i, cap[j]? = some i := ⟨cap[j], List.getElem?_eq_getElem hj⟩
  have hz : (cs.zip cap)[j]? = some (x, i) := by rw [List.getElem?_zip_eq_some]; exact ⟨hx, hi⟩
  exact ⟨i, hi, of_decide_eq_true (h.2 _ (List.mem_of_getElem? hz))⟩
/-! ### the end of a law with such defs -/
theorem tab_of {K : PySem.W.Frag} {h : Heap} {f c P : Addr} {oc : Value} {od : Option Addr} {fd : FuncData} {osl : Array (Option Value)} (O : LamX.OwnTab K f h) (lk : K.lookup f = some ⟨oc, od, .func fd, osl⟩) (hc : fd.code = .ref c) (cd : PySem.W.codeHdIn K c P = true) : h.get? P = some { cls := .none, data := .fields #[] } := by
  unfold PySem.W.codeHdIn at cd
  split at cd
  · rename_i vs _ hk
    simp only [Bool.and_eq_true] at cd
    obtain ⟨⟨⟨⟨⟨e1, _⟩, _⟩, _⟩, _⟩, _⟩ := cd
    split at e1
    · rename_i P' h11
      have hP : P' = P := beq_iff_eq.mp e1
      subst hP
      exact O c P' _ fd _ _ vs _ lk rfl hc hk h11
    · cases e1
  · cases cd
theorem walk_ofTab {l : PySem.W.OpenLaw} {n k : Nat} {q : Program} {loose : List PySem.Str} {XP : (PySem.Str → Option Value) → Heap → Prop} {YP : World → Heap → Prop} {d : DefRec} {K : Params → PySem.W.Frag} {x : PySem.Str} (names : List PySem.Str)
    (hn : l.most = some n) (hn2 : n ≤ sizeLine) (hdf : d.params.defaults = []) (hr : Room k callerA) (hrec : (names.all fun z => (recsOf q).any fun e => e.name == z) = true) (hY : ∀ (w : World) (h : Heap), YP w h → (K w.params).In h)
    (F : ∀ (w : World) (mg : PySem.Str → Option Value) (fa : Addr) (h : Heap), (K w.params).In h → h.Ns mainGlobals mg → mg d.name = some (.ref fa) → (∀ z ∈ names, ∀ f, mg z = some (.ref f) → LamX.OwnTab (K w.params) f h) → LamX.LawAtS l w (K w.params) CX0 k n x mg fa h) :
    PySem.W.WalkO q loose XP YP l.row.toRowW d [] (fun f vs => PySem.call f vs) := by
  refine Att.attach_callB hn hdf fun w s₀ s₁ mg mb fa o pm cd doc a vs ns G Y ho hd hcd hmg hobj hints hlen hbits hg => ?_
  have KX := hY w _ Y
  have own : ∀ z ∈ names, ∀ f, mg z = some (.ref f) → LamX.OwnTab (K w.params) f s₁.heap := fun z hz f hf c P o1 fd1 e dd vs1 sl k1 k2 k3 k4 k5 => by
    obtain ⟨dL, hm, hn1⟩ := List.any_eq_true.mp (List.all_eq_true.mp hrec z hz)
    have hn2 : dL.name = z := beq_iff_eq.mp hn1
    obtain ⟨a', o', fd', c', P', h1, h2, h3, h4, h5, h6⟩ := G.T.tab dL hm
    rw [hn2, hf] at h1
    cases h1
    have g1 := KX _ _ k1
    rw [g1] at h2
    cases h2
    rw [k2] at h3
    cases h3
    rw [k3] at h4
    cases h4
    obtain ⟨⟨oc, vc, e1, _, e3, e4⟩, hP⟩ := h6
    have g2 := KX _ _ k4
    rw [g2] at e1
    cases e1
    cases e3
    rw [k5] at e4
    cases e4
    exact hP
  obtain ⟨fd, cs, sp, hT, nT, C, hb, hsp, hF⟩ := F w mg fa _ KX G.T.g hmg own
  exact LamX.law_callTs KX G.T.g G.T.b G.T.builtins G.T.nolimit hg hT nT C G.T.bmain hobj hints (Nat.le_trans hlen hn2) hr hF hb (fun H hH hS => hsp H a ns hlen hbits hH hS) fun H e s' z => z
/-! ### the tables, and what a def leaves that makes lambdas -/
/-- P's tables are known -/
theorem tabs_ext {T : List (Addr × PySem.Str)} {p : Addr} {c : Nat} {H H' : Hp} (t : LamX.Tabs T H) (s : Src H p c) (e : Ext p H H') : LamX.Tabs T H' := by
  obtain ⟨g, s0, k, hp, _⟩ := s
  intro q hq
  obtain ⟨ps, h1, h2, h3⟩ := t q hq
  refine ⟨ps, e _ _ (fun z => by rw [z, hp] at h1; cases h1) h1, h2, fun pos cv hc => ?_⟩
  obtain ⟨c', e1, e2⟩ := h3 pos cv hc
  exact ⟨c', e1, e _ _ (fun z => by rw [z, hp] at e2; unfold LamX.CodeO at e2; cases e2) e2⟩
theorem src_extN {p : Addr} {c : Nat} {H H' : Hp} (s : Src H p c) (e : LamX.ExtN H H') : Src H' p c := by
  obtain ⟨g, s0, k, hp, r⟩ := s
  exact ⟨g, s0, k, e _ _ hp (fun ps z => by cases z), r⟩
theorem Kc.extN {H H' : Hp} (e : LamX.ExtN H H') : Kc H H' := fun b q h => e _ _ h (LamX.codeO_ne ·)
theorem extN_same {H H' : Hp} (s : Same H H') : LamX.ExtN H H' := LamX.ExtN.of s
/-- the law's promise, with its tables -/
def spLawT (K : PySem.W.Frag) (ts : List Addr) : Sp := fun vs H Q _ => ∃ (a : Addr) (ns : List Int), vs = [.ref a] ∧ SqL K H a (ns.map V.int) ∧ (∀ P ∈ ts, H P = some (.tbl #[])) ∧ ∀ H', Q (.bl true) H'
end Bz

namespace Bz
open PySem PySem.Spec PyProof.Rows L2
/-- behind an expression with more than one way: what is known of its value -/
theorem pe_cutE {X : Cx} {e : Expr} {te : TE} (he : PE X e te) : PE X e (fun σ H Q => ∃ N : V → Hp → Prop, te σ H N ∧ ∀ v H', N v H' → Q v H') :=
  ⟨fun pins s σ H Q I ⟨N, h, k⟩ => thn (he.run pins s σ H N I h) fun u s1 ⟨v, H1, I1, r1, q⟩ => ⟨v, H1, I1, r1, k v H1 q⟩⟩
/-! ### rows of pieces -/
/-- ls can be cut into n pieces, each not empty and such that R says -/
def Pc (R : List PySem.Str → Prop) : Nat → List PySem.Str → Prop
  | 0, ls => ls = []
  | n + 1, ls => ∃ a b, ls = a ++ b ∧ a ≠ [] ∧ R a ∧ Pc R n b
theorem pc_snoc {R : List PySem.Str → Prop} : ∀ (n : Nat) (ls : List PySem.Str), Pc R (n + 1) ls ↔ ∃ a b, ls = a ++ b ∧ Pc R n a ∧ b ≠ [] ∧ R b
  | 0, ls => by
    constructor
    · rintro ⟨a, b, rfl, h1, h2, rfl⟩
      exact ⟨[], a, by simp, rfl, h1, h2⟩
    · rintro ⟨a, b, rfl, rfl, h1, h2⟩
      exact ⟨b, [], by simp, h1, h2, rfl⟩
  | n + 1, ls => by
    constructor
    · rintro ⟨a, b, rfl, h1, h2, h3⟩
      obtain ⟨c, d, rfl, h4, h5, h6⟩ := (pc_snoc n b).mp h3
      exact ⟨a ++ c, d, by rw [List.append_assoc], ⟨a, c, rfl, h1, h2, h4⟩, h5, h6⟩
    · rintro ⟨a, b, rfl, ⟨c, d, rfl, h1, h2, h3⟩, h4, h5⟩
      exact ⟨c, d ++ b, by rw [List.append_assoc], h1, h2, (pc_snoc n _).mpr ⟨d, b, rfl, h3, h4, h5⟩⟩
theorem pc_iff {R S : List PySem.Str → Prop} (h : ∀ a, R a ↔ S a) (n : Nat) (ls : List PySem.Str) : Pc R n ls ↔ Pc S n ls := by
  have e : R = S := funext fun a => propext (h a)
  rw [e]
/-- how many pieces it takes -/
def PcN (R : List PySem.Str → Prop) (ls : List PySem.Str) (n : Int) : Prop := ∃ k : Nat, n = k ∧ Pc R k ls
/-- some run there -/
def Reads (xs : List Arw) (ss es ls : List PySem.Str) : Prop := ∃ s ∈ ss, ∃ e ∈ es, ∃ m, RunS xs ls s e m
theorem reads_of {xs : List Arw} {ss es ls : List PySem.Str} {o : Option Int} (h : LPr xs ss es ls o) : o ≠ none ↔ Reads xs ss es ls := by
  cases o with
  | none => exact ⟨fun c => absurd rfl c, fun ⟨s, hs, e, he, m, r⟩ => absurd ⟨s, hs, e, he, r⟩ (h m)⟩
  | some n =>
    obtain ⟨⟨s, hs, e, he, r⟩, _⟩ := h
    exact ⟨fun _ => ⟨s, hs, e, he, n, r⟩, fun _ => by simp⟩
theorem reads_cheap {xs ys : List Arw} {ss es ts gs ls : List PySem.Str} (c : CheapOf xs ys) (hs : ∀ k, k ∈ ts ↔ k ∈ ss) (he : ∀ k, k ∈ gs ↔ k ∈ es) : Reads ys ts gs ls ↔ Reads xs ss es ls := by
  constructor
  · rintro ⟨s, h1, e, h2, m, r⟩
    exact ⟨s, (hs s).mp h1, e, (he e).mp h2, m, run_sub (fun y hy => (c.sub y hy).1) _ _ _ _ r⟩
  · rintro ⟨s, h1, e, h2, m, r⟩
    obtain ⟨k, _, r'⟩ := run_cheap c _ _ _ _ r
    exact ⟨s, (hs s).mpr h1, e, (he e).mpr h2, k, r'⟩
/-- an arrow's sources and targets in the machine of pieces -/
def srcA (cut : PySem.Str) (ss : List PySem.Str) (x : Arw) : List (PySem.Str × Int) := if x.s ∈ ss then [(x.s, 0), (cut, 1)] else [(x.s, 0)]
def tgtA (cut : PySem.Str) (es : List PySem.Str) (x : Arw) : List PySem.Str := if x.t ∈ es then [x.t, cut] else [x.t]
def onT (x : Arw) (ts : List PySem.Str) (p : PySem.Str × Int) : List Arw := ts.map fun t => ⟨p.1, x.l, t, p.2⟩
def pcX (cut : PySem.Str) (ss es : List PySem.Str) (x : Arw) : List Arw := (srcA cut ss x).flatMap (onT x (tgtA cut es x))
def pcA (cut : PySem.Str) (ss es : List PySem.Str) (xs : List Arw) : List Arw := xs.flatMap (pcX cut ss es)
theorem onT_len (x : Arw) (ts : List PySem.Str) (p : PySem.Str × Int) : (onT x ts p).length = ts.length := by
  unfold onT
  rw [List.length_map]
theorem srcA_len (cut : PySem.Str) (ss : List PySem.Str) (x : Arw) : (srcA cut ss x).length ≤ 2 := by
  unfold srcA
  split
  · exact Nat.le_refl 2
  · exact (by decide : 1 ≤ 2)
theorem tgtA_len (cut : PySem.Str) (es : List PySem.Str) (x : Arw) : (tgtA cut es x).length ≤ 2 := by
  unfold tgtA
  split
  · exact Nat.le_refl _
  · show 1 ≤ 2
    omega
theorem pcX_len (cut : PySem.Str) (ss es : List PySem.Str) (x : Arw) : (pcX cut ss es x).length ≤ 4 := by
  have h2 := tgtA_len cut es x
  unfold pcX srcA
  split
  · simp only [List.flatMap_cons, List.flatMap_nil, List.length_append, List.append_nil, onT_len]
    omega
  · simp only [List.flatMap_cons, List.flatMap_nil, List.length_append, List.append_nil, onT_len]
    omega
theorem pcA_len (cut : PySem.Str) (ss es : List PySem.Str) (xs : List Arw) : (pcA cut ss es xs).length ≤ 4 * xs.length := by
  unfold pcA
  induction xs with
  | nil => simp
  | cons x xs ih =>
    have := pcX_len cut ss es x
    rw [List.flatMap_cons, List.length_append, List.length_cons]
    omega
theorem pcA_snoc {cut : PySem.Str} {ss es : List PySem.Str} {xs : List Arw} {x : Arw} : pcA cut ss es (xs ++ [x]) = pcA cut ss es xs ++ pcX cut ss es x := by
  unfold pcA
  rw [List.flatMap_append]
  simp
theorem srcA_mem {cut : PySem.Str} {ss : List PySem.Str} {x : Arw} {p : PySem.Str × Int} : p ∈ srcA cut ss x ↔ (p.1 = x.s ∧ p.2 = 0) ∨ (x.s ∈ ss ∧ p.1 = cut ∧ p.2 = 1) := by
  obtain ⟨a, b⟩ := p
  unfold srcA
  by_cases h : x.s ∈ ss
  · rw [if_pos h]
    simp [h]
  · rw [if_neg h]
    simp [h]
theorem tgtA_mem {cut : PySem.Str} {es : List PySem.Str} {x : Arw} {t : PySem.Str} : t ∈ tgtA cut es x ↔ t = x.t ∨ (x.t ∈ es ∧ t = cut) := by
  unfold tgtA
  by_cases h : x.t ∈ es
  · rw [if_pos h]
    simp [h]
  · rw [if_neg h]
    simp [h]
theorem pcX_mem {cut : PySem.Str} {ss es : List PySem.Str} {x z : Arw} : z ∈ pcX cut ss es x ↔ z.l = x.l ∧ ((z.s = x.s ∧ z.c = 0) ∨ (x.s ∈ ss ∧ z.s = cut ∧ z.c = 1)) ∧ (z.t = x.t ∨ (x.t ∈ es ∧ z.t = cut)) := by
  unfold pcX onT
  rw [List.mem_flatMap]
  constructor
  · rintro ⟨p, hp, hz⟩
    obtain ⟨t, ht, rfl⟩ := List.mem_map.mp hz
    exact ⟨rfl, srcA_mem.mp hp, tgtA_mem.mp ht⟩
  · rintro ⟨h1, h2, h3⟩
    refine ⟨(z.s, z.c), srcA_mem.mpr h2, List.mem_map.mpr ⟨z.t, tgtA_mem.mpr h3, ?_⟩⟩
    rw [← h1]
theorem pcA_mem {cut : PySem.Str} {ss es : List PySem.Str} {xs : List Arw} {z : Arw} : z ∈ pcA cut ss es xs ↔ ∃ x ∈ xs, z.l = x.l ∧ ((z.s = x.s ∧ z.c = 0) ∨ (x.s ∈ ss ∧ z.s = cut ∧ z.c = 1)) ∧ (z.t = x.t ∨ (x.t ∈ es ∧ z.t = cut)) := by
  unfold pcA
  rw [List.mem_flatMap]
  exact ⟨fun ⟨x, hx, h⟩ => ⟨x, hx, pcX_mem.mp h⟩, fun ⟨x, hx, h⟩ => ⟨x, hx, pcX_mem.mpr h⟩⟩
section
variable {cut : PySem.Str} {ss es S : List PySem.Str} {xs : List Arw}
theorem run_within (hx : ∀ x ∈ xs, x.s ∈ S ∧ x.t ∈ S) (hc : cut ∉ S) : ∀ (ls : List PySem.Str) (a : PySem.Str) (n : Int), a ∈ S →
    (RunS (pcA cut ss es xs) ls a cut n ↔ ∃ u v, ls = u ++ v ∧ u ≠ [] ∧ (∃ e ∈ es, ∃ m, RunS xs u a e m) ∧ RunS (pcA cut ss es xs) v cut cut n)
  | [], a, n, ha => by
    constructor
    · rintro ⟨e, _⟩
      rw [e] at ha
      exact absurd ha hc
    · rintro ⟨u, v, e, h, _⟩
      exact absurd (List.append_eq_nil_iff.mp e.symm).1 h
  | l :: ls, a, n, ha => by
    constructor
    · rintro ⟨z, hz, e1, e2, m, r, e⟩
      obtain ⟨x, hxm, el, hs, ht⟩ := pcA_mem.mp hz
      have hs' : z.s = x.s ∧ z.c = 0 := by
        rcases hs with hs | ⟨_, hs, _⟩
        · exact hs
        · exact absurd (by rw [← hs, e1]; exact ha) hc
      obtain ⟨f1, f2⟩ := hs'
      have en : n = m := by omega
      subst en
      rcases ht with ht | ⟨he, ht⟩
      · rw [ht] at r
        obtain ⟨u, v, rfl, hu, ⟨e0, he0, m0, r0⟩, r1⟩ := (run_within hx hc ls x.t n (hx x hxm).2).mp r
        exact ⟨l :: u, v, rfl, by simp, ⟨e0, he0, x.c + m0, x, hxm, f1.symm.trans e1, el.symm.trans e2, m0, r0, rfl⟩, r1⟩
      · rw [ht] at r
        exact ⟨[l], ls, rfl, by simp, ⟨x.t, he, x.c + 0, x, hxm, f1.symm.trans e1, el.symm.trans e2, 0, ⟨rfl, rfl⟩, rfl⟩, r⟩
    · rintro ⟨u, v, e, hu, ⟨e0, he0, m0, r0⟩, r1⟩
      cases u with
      | nil => exact absurd rfl hu
      | cons l' u =>
        rw [List.cons_append] at e
        obtain ⟨rfl, rfl⟩ := List.cons.inj e
        obtain ⟨x, hxm, e1, e2, m1, r2, _⟩ := r0
        by_cases c : u = []
        · subst c
          obtain ⟨e3, _⟩ := r2
          exact ⟨⟨x.s, x.l, cut, 0⟩, pcA_mem.mpr ⟨x, hxm, rfl, .inl ⟨rfl, rfl⟩, .inr ⟨by rw [e3]; exact he0, rfl⟩⟩, e1, e2, n, r1, by show n = 0 + n; omega⟩
        · exact ⟨⟨x.s, x.l, x.t, 0⟩, pcA_mem.mpr ⟨x, hxm, rfl, .inl ⟨rfl, rfl⟩, .inl rfl⟩, e1, e2, n, (run_within hx hc (u ++ v) x.t n (hx x hxm).2).mpr ⟨u, v, rfl, c, ⟨e0, he0, m1, r2⟩, r1⟩, by show n = 0 + n; omega⟩
theorem run_cut (hx : ∀ x ∈ xs, x.s ∈ S ∧ x.t ∈ S) (hc : cut ∉ S) (ls : List PySem.Str) (n : Int) :
    RunS (pcA cut ss es xs) ls cut cut n ↔ (ls = [] ∧ n = 0) ∨ ∃ u v k, ls = u ++ v ∧ u ≠ [] ∧ Reads xs ss es u ∧ RunS (pcA cut ss es xs) v cut cut k ∧ n = k + 1 := by
  cases ls with
  | nil =>
    constructor
    · rintro ⟨_, e⟩
      exact .inl ⟨rfl, e⟩
    · rintro (⟨_, e⟩ | ⟨u, v, k, e, h, _⟩)
      · exact ⟨rfl, e⟩
      · exact absurd (List.append_eq_nil_iff.mp e.symm).1 h
  | cons l ls =>
    constructor
    · rintro ⟨z, hz, e1, e2, m, r, e⟩
      obtain ⟨x, hxm, el, hs, ht⟩ := pcA_mem.mp hz
      have hs' : x.s ∈ ss ∧ z.c = 1 := by
        rcases hs with ⟨hs, _⟩ | ⟨h1, _, h2⟩
        · exact absurd (by rw [← e1, hs]; exact (hx x hxm).1) hc
        · exact ⟨h1, h2⟩
      obtain ⟨f1, f2⟩ := hs'
      refine .inr ?_
      rcases ht with ht | ⟨he, ht⟩
      · rw [ht] at r
        obtain ⟨u, v, rfl, hu, ⟨e0, he0, m0, r0⟩, r1⟩ := (run_within hx hc ls x.t m (hx x hxm).2).mp r
        exact ⟨l :: u, v, m, rfl, by simp, ⟨x.s, f1, e0, he0, x.c + m0, x, hxm, rfl, el.symm.trans e2, m0, r0, rfl⟩, r1, by omega⟩
      · rw [ht] at r
        exact ⟨[l], ls, m, rfl, by simp, ⟨x.s, f1, x.t, he, x.c + 0, x, hxm, rfl, el.symm.trans e2, 0, ⟨rfl, rfl⟩, rfl⟩, r, by omega⟩
    · rintro (⟨e, _⟩ | ⟨u, v, k, e, hu, ⟨s0, hs0, e0, he0, m0, r0⟩, r1, rfl⟩)
      · cases e
      · cases u with
        | nil => exact absurd rfl hu
        | cons l' u =>
          rw [List.cons_append] at e
          obtain ⟨rfl, rfl⟩ := List.cons.inj e
          obtain ⟨x, hxm, e1, e2, m1, r2, _⟩ := r0
          have hs1 : x.s ∈ ss := by rw [e1]; exact hs0
          by_cases c : u = []
          · subst c
            obtain ⟨e3, _⟩ := r2
            exact ⟨⟨cut, x.l, cut, 1⟩, pcA_mem.mpr ⟨x, hxm, rfl, .inr ⟨hs1, rfl, rfl⟩, .inr ⟨by rw [e3]; exact he0, rfl⟩⟩, rfl, e2, k, r1, by show k + 1 = 1 + k; omega⟩
          · exact ⟨⟨cut, x.l, x.t, 1⟩, pcA_mem.mpr ⟨x, hxm, rfl, .inr ⟨hs1, rfl, rfl⟩, .inl rfl⟩, rfl, e2, k, (run_within hx hc (u ++ v) x.t k (hx x hxm).2).mpr ⟨u, v, rfl, c, ⟨e0, he0, m1, r2⟩, r1⟩, by show k + 1 = 1 + k; omega⟩
theorem run_pieces (hx : ∀ x ∈ xs, x.s ∈ S ∧ x.t ∈ S) (hc : cut ∉ S) : ∀ (L : Nat) (ls : List PySem.Str), ls.length ≤ L → ∀ n : Int, (RunS (pcA cut ss es xs) ls cut cut n ↔ PcN (Reads xs ss es) ls n)
  | L, ls, hl, n => by
    rw [run_cut hx hc]
    constructor
    · rintro (⟨rfl, rfl⟩ | ⟨u, v, k, rfl, hu, hr, r, rfl⟩)
      · exact ⟨0, rfl, rfl⟩
      · have ul : 0 < u.length := List.length_pos_iff.mpr hu
        rw [List.length_append] at hl
        cases L with
        | zero => omega
        | succ L =>
          obtain ⟨j, rfl, hj⟩ := (run_pieces hx hc L v (by omega) k).mp r
          exact ⟨j + 1, by omega, u, v, rfl, hu, hr, hj⟩
    · rintro ⟨k, rfl, hk⟩
      cases k with
      | zero => exact .inl ⟨hk, rfl⟩
      | succ k =>
        obtain ⟨u, v, rfl, hu, hr, hv⟩ := hk
        have ul : 0 < u.length := List.length_pos_iff.mpr hu
        rw [List.length_append] at hl
        cases L with
        | zero => omega
        | succ L => exact .inr ⟨u, v, k, rfl, hu, hr, (run_pieces hx hc L v (by omega) k).mpr ⟨k, rfl, hv⟩, by omega⟩
end
theorem LPr.pieces {cut : PySem.Str} {ss es S ls : List PySem.Str} {xs : List Arw} (hx : ∀ x ∈ xs, x.s ∈ S ∧ x.t ∈ S) (hc : cut ∉ S) {o : Option Int} (h : LPr (pcA cut ss es xs) [cut] [cut] ls o) : LeastO (PcN (Reads xs ss es) ls) o := by
  refine LeastO.iff (fun n => ?_) h
  rw [← run_pieces hx hc ls.length ls (Nat.le_refl _) n]
  simp
/-- R is the machine of pieces of M -/
structure PieceOf (R M : MachV) : Prop where
  price : ∀ (ls : List PySem.Str) (o : Option Int), LeastO (fun n => ∃ e ∈ R.ens, Rch R.ars R.sts ls e n) o → LeastO (PcN (Reads M.ars M.sts M.ens) ls) o
  len : R.sta.length ≤ M.sta.length + 1
theorem pc_in {M : MachV} {cut : PySem.Str} (h : MFine M) : (∀ z ∈ pcA cut M.sts M.ens M.ars, z.s ∈ M.sta ++ [cut] ∧ z.t ∈ M.sta ++ [cut]) ∧ (∀ s ∈ [cut], s ∈ M.sta ++ [cut]) := by
  refine ⟨fun z hz => ?_, fun s hs => List.mem_append_right _ hs⟩
  obtain ⟨x, hx, _, h1, h2⟩ := pcA_mem.mp hz
  constructor
  · rcases h1 with ⟨h1, _⟩ | ⟨_, h1, _⟩
    · rw [h1]
      exact List.mem_append_left _ (h.ar x hx).1
    · rw [h1]
      simp
  · rcases h2 with h2 | ⟨_, h2⟩
    · rw [h2]
      exact List.mem_append_left _ (h.ar x hx).2
    · rw [h2]
      simp
theorem pc_ok {M : MachV} {cut : PySem.Str} (h : MFine M) (hn : Nm cut) : ∀ z ∈ pcA cut M.sts M.ens M.ars, z.Ok := fun z hz => by
  obtain ⟨x, hx, e, h1, h2⟩ := pcA_mem.mp hz
  have o := h.ok x hx
  refine ⟨?_, by rw [e]; exact o.l, ?_, ?_, ?_⟩
  · rcases h1 with ⟨h1, _⟩ | ⟨_, h1, _⟩
    · rw [h1]; exact o.s
    · rw [h1]; exact hn
  · rcases h2 with h2 | ⟨_, h2⟩
    · rw [h2]; exact o.t
    · rw [h2]; exact hn
  · rcases h1 with ⟨_, h1⟩ | ⟨_, _, h1⟩ <;> rw [h1] <;> decide
  · rcases h1 with ⟨_, h1⟩ | ⟨_, _, h1⟩ <;> rw [h1] <;> decide
theorem piece_of {R M : MachV} {cut : PySem.Str} {zs : List Arw} {F1 F2 : List PySem.Str} (hM : MFine M) (hn : Nm cut) (hc : cut ∉ M.sta) (l : M.ars.length ≤ 95) (nl : M.sta.length ≤ 39) (hK : Kept (pcA cut M.sts M.ens M.ars) [cut] [cut] F1 F2)
    (hz : CheapOf ((pcA cut M.sts M.ens M.ars).filter (kpA F1 F2)) zs) (hR : MOf R zs (([cut] : List PySem.Str).filter (kp F1 F2)) (([cut] : List PySem.Str).filter (kp F1 F2))) : PieceOf R M ∧ MFine R := by
  obtain ⟨i1, i2⟩ := pc_in (cut := cut) hM
  have ok := pc_ok hM hn
  have sub : ∀ z ∈ zs, z ∈ pcA cut M.sts M.ens M.ars := fun z hz' => (List.mem_filter.mp (hz.sub z hz').1).1
  have cs : ∀ s ∈ ([cut] : List PySem.Str).filter (kp F1 F2), s ∈ M.sta ++ [cut] := fun s hs => i2 s (List.mem_filter.mp hs).1
  have q := nodup_le (asc_nodup hR.sta.1) (mof_sta hR (fun z hz' => i1 z (sub z hz')) cs cs)
  rw [List.length_append, List.length_singleton] at q
  have zl : zs.length ≤ 400 := by
    have := nodup_le (cheap_nodup hz) fun y hy => (hz.sub y hy).1
    have := List.length_filter_le (kpA F1 F2) (pcA cut M.sts M.ens M.ars)
    have := pcA_len cut M.sts M.ens M.ars
    omega
  refine ⟨⟨fun ls o ho => ?_, q⟩, fine_of (ns := M.sta ++ [cut]) hR (fun z hz' => ok z (sub z hz')) zl (fun s hs => ?_) (by rw [List.length_append, List.length_singleton]; omega) cs cs fun z hz' => i1 z (sub z hz')⟩
  · exact LPr.pieces hM.ar hc ((LPr.kept hK).mp ((LPr.cheap hz (fun _ => Iff.rfl) (fun _ => Iff.rfl)).mp (hR.price ho)))
  · rcases List.mem_append.mp hs with h | h
    · exact hM.nm s h
    · rw [List.mem_singleton.mp h]
      exact hn
def spNewName (K : PySem.W.Frag) : Sp := fun vs H Q _ => ∃ (t : Addr) (ns : List PySem.Str), vs = [.ref t] ∧ SqT K H t (ns.map V.str) ∧ ns.length ≤ 20 ∧
  ∀ (c : PySem.Str) (H' : Hp), Nm c → c ∉ ns → Same H H' → Q (.str c) H'
def spPieces (C : Addr) : Sp := fun vs H Q _ => ∃ (m : Addr) (M : MachV), vs = [.ref m] ∧ IsMach C H m M ∧ MFine M ∧ M.sta.length ≤ 20 ∧ M.ars.length ≤ 95 ∧
  ∀ (q : Addr) (R : MachV) (H' : Hp), H q = none → IsMach C H' q R → MFine R → PieceOf R M → Same H H' → Q (.ref q) H'
def spReadsL (K : PySem.W.Frag) : Sp := fun vs H Q _ => ∃ (m a b e : Addr) (us : List V) (xs : List Arw) (ss es : List PySem.Str) (row : PySem.Str), vs = [.ref m, .str row] ∧ MadeL K H m a b e us xs ss es ∧ xs.length ≤ 1000 ∧ ss.length ≤ 1000 ∧ es.length ≤ 1000 ∧ row.length ≤ 5000 ∧
  ∀ (o : Bool) (H' : Hp), (o = true ↔ Reads xs ss es (sgnL row)) → Same H H' → Q (.bl o) H'
def spLeastPc (K : PySem.W.Frag) : Sp := fun vs H Q _ => ∃ (m a b e : Addr) (us : List V) (xs : List Arw) (ss es : List PySem.Str) (row : PySem.Str), vs = [.ref m, .str row] ∧ MadeL K H m a b e us xs ss es ∧ xs.length ≤ 1000 ∧ ss.length ≤ 1000 ∧ es.length ≤ 1000 ∧ row.length ≤ 1000 ∧
  ∀ (o : Option Int) (H' : Hp), LeastO (PcN (Reads xs ss es) (sgnL row)) o → Same H H' → Q (optV o) H'
end Bz
namespace Bz
open PySem PySem.Spec PyProof.Rows L2
/-! ### the least numbers of pieces, place by place -/
def encO : Option Int → Int
  | none => -1
  | some n => n
theorem pcn_pos {R : List PySem.Str → Prop} {ls : List PySem.Str} {n : Int} (h : LeastO (PcN R ls) (some n)) : 0 ≤ n := by
  obtain ⟨⟨k, rfl, _⟩, _⟩ := h
  exact Int.natCast_nonneg k
theorem pcn_nil {R : List PySem.Str → Prop} : LeastO (PcN R []) (some 0) := by
  refine ⟨⟨0, rfl, rfl⟩, fun n hn => ?_⟩
  obtain ⟨k, rfl, _⟩ := hn
  exact Int.natCast_nonneg k
theorem dp_step {R : List PySem.Str → Prop} {ls : List PySem.Str} {i : Nat} {f : Nat → Option Int} (hf : ∀ j, j ≤ i → LeastO (PcN R (ls.take j)) (f j)) (hi : i < ls.length) {o : Option Int}
    (h : LeastO (fun n => ∃ b, b < i + 1 ∧ ∃ m, f b = some m ∧ R ((ls.take (i + 1)).drop b) ∧ n = m + 1) o) : LeastO (PcN R (ls.take (i + 1))) o := by
  refine LeastO.both ?_ ?_ h
  · rintro n ⟨b, hb, m, e, hr, rfl⟩
    have g := hf b (by omega)
    rw [e] at g
    obtain ⟨⟨k, rfl, hk⟩, _⟩ := g
    refine ⟨_, Int.le_refl _, k + 1, rfl, (pc_snoc k _).mpr ⟨ls.take b, (ls.take (i + 1)).drop b, ?_, hk, ?_, hr⟩⟩
    · have e1 : ls.take b = (ls.take (i + 1)).take b := by rw [List.take_take, Nat.min_eq_left (by omega)]
      rw [e1, List.take_append_drop]
    · intro c
      have := congrArg List.length c
      rw [List.length_drop, List.length_take] at this
      simp only [List.length_nil] at this
      omega
  · rintro n ⟨k, rfl, hk⟩
    cases k with
    | zero =>
      have hk' : ls.take (i + 1) = [] := hk
      have := congrArg List.length hk'
      rw [List.length_take] at this
      simp only [List.length_nil] at this
      omega
    | succ k =>
      obtain ⟨a, b, e, ha, hb, hr⟩ := (pc_snoc k _).mp hk
      have bl : 0 < b.length := List.length_pos_iff.mpr hb
      have el := congrArg List.length e
      rw [List.length_take, List.length_append, Nat.min_eq_left (by omega)] at el
      have ea : a = ls.take a.length := by
        have : (ls.take (i + 1)).take a.length = a := by rw [e, List.take_left']; rfl
        rw [List.take_take, Nat.min_eq_left (by omega)] at this
        exact this.symm
      have eb : b = (ls.take (i + 1)).drop a.length := by rw [e, List.drop_left']; rfl
      have g := hf a.length (by omega)
      rw [← ea] at g
      cases ef : f a.length with
      | none =>
        rw [ef] at g
        exact absurd ⟨k, rfl, ha⟩ (g k)
      | some m =>
        rw [ef] at g
        have := g.2 k ⟨k, rfl, ha⟩
        exact ⟨m + 1, by omega, a.length, by omega, m, ef, by rw [← eb]; exact hr, rfl⟩
theorem tl_cutB (z : PySem.Str) {b e : Nat} (h : b ≤ e) : TL.tl (cutS z (some (b : Int)) (some (e : Int))) = ((TL.tl z).take e).drop b := by
  have e1 : HT.sIx z.length 0 (some (b : Int)) = min b z.length := sIx_min
  have e2 : HT.sIx z.length z.length (some (e : Int)) = min e z.length := sIx_min
  unfold cutS
  show (List.take (HT.sIx z.length z.length (some (e : Int)) - HT.sIx z.length 0 (some (b : Int))) (List.drop (HT.sIx z.length 0 (some (b : Int))) z.cps.toList)).toArray.toList = _
  rw [e1, e2]
  show List.take (min e z.length - min b z.length) (List.drop (min b z.length) z.cps.toList) = List.drop b (List.take e z.cps.toList)
  have el : z.length = z.cps.toList.length := len_tl z
  rw [el, List.drop_take]
  by_cases c : b ≤ z.cps.toList.length
  · rw [Nat.min_eq_left c]
    by_cases d : e ≤ z.cps.toList.length
    · rw [Nat.min_eq_left d]
    · rw [Nat.min_eq_right (by omega), List.take_of_length_le (by rw [List.length_drop]; omega), List.take_of_length_le (by rw [List.length_drop]; omega)]
  · rw [Nat.min_eq_right (Nat.le_of_not_le c), List.drop_of_length_le (Nat.le_refl _), List.drop_of_length_le (Nat.le_of_not_le c)]
    simp
theorem sgnL_cutB (z : PySem.Str) {b e : Nat} (h : b ≤ e) : sgnL (cutS z (some (b : Int)) (some (e : Int))) = ((sgnL z).take e).drop b := by
  rw [sgnL_tl, sgnL_tl, tl_cutB z h, List.map_drop, List.map_take]
theorem pget38 {α β : Type} {R : α → β → Prop} : ∀ {as : List α} {bs : List β} {i : Nat} {a : α}, Paired R as bs → as[i]? = some a → ∃ b, bs[i]? = some b ∧ R a b
  | _, _, _, _, .nil, h => by simp at h
  | _, _, 0, a, .cons (b := b) r _, h => by
    have e := Option.some.inj h
    exact ⟨b, rfl, by rw [← e]; exact r⟩
  | _, _, i + 1, a, .cons _ q, h => pget38 q (i := i) h
theorem range_int (g : Nat → Int) {j n : Nat} (h : j < n) : (((List.range n).map g).map V.int)[j]? = some (.int (g j)) := by
  rw [List.getElem?_map, List.getElem?_map, List.getElem?_range h]
  rfl
theorem range_put {g h : Nat → Int} {n : Nat} (e : ∀ j, j < n → h j = g j) : (List.range (n + 1)).map h = (List.range n).map g ++ [h n] := by
  rw [List.range_succ, List.map_append]
  congr 1
  exact List.map_congr_left fun j hj => e j (List.mem_range.mp hj)
end Bz

namespace Bz
open PySem PySem.Spec PyProof.Rows L2
/-! ### what an expression is worth -/
theorem NL.same {H H' : Hp} (s : Same H H') : NL H H' := fun q o h _ => s q o h
theorem NL.trans {H H1 H2 : Hp} (a : NL H H1) (b : NL H1 H2) : NL H H2 := fun q o h n => b q o (a q o h n) n
theorem NL.refl (H : Hp) : NL H H := fun _ _ h _ => h
theorem NL.put {D : Addr} {H : Hp} {xs : List V} {o : HO} (h : H D = some (.lst xs)) : NL H (L2.upd H D o) := fun q u e n => by
  rw [upd_ne (fun z => n xs (by rw [z, h] at e; exact (Option.some.inj e).symm))]
  exact e
/-- a part of an expression that its worth is put together of -/
inductive Fac (e0 : Ex) : Ex → Prop
  | self : Fac e0 e0
  | cut {a b c : Ex} (h : Fac e0 (a.app (b.app c))) : Fac e0 b
  | inn {x : Ex} (h : Fac e0 (.star x .nil)) : Fac e0 x
theorem Fac.trans {a b c : Ex} (h : Fac a b) (k : Fac b c) : Fac a c := by
  induction k with
  | self => exact h
  | cut _ ih => exact .cut ih
  | inn _ ih => exact .inn ih
theorem Fac.fst {e0 a b : Ex} (h : Fac e0 (a.app b)) : Fac e0 a := .cut (a := .nil) (c := b) h
theorem Fac.snd {e0 a b : Ex} (h : Fac e0 (a.app b)) : Fac e0 b := .cut (a := a) (c := .nil) (by rw [Ex.app_nil]; exact h)
theorem fac_whole : ∀ (fs : List Fr) (x : Ex), Fac (Zp.whole fs x) x
  | [], x => .self
  | f :: fs, x => .inn (.cut (a := Ex.comb f.done) (b := .star x .nil) (c := f.todo) (fac_whole fs ((Ex.comb f.done).app (.star x f.todo))))
theorem Zp.Ok.fac {T : List Nat} {e : Ex} {bad : Ex → Bool} {fs : List Fr} {d : List Ex} {t : Ex} (h : Zp.Ok T e bad fs d t) : Fac e ((Ex.comb d).app t) := by
  have := fac_whole fs ((Ex.comb d).app t)
  rw [h.all] at this
  exact this
/-- values that stand for expressions, and stay so as long as what is no list stays -/
def Stab (R : Hp → V → Ex → Prop) : Prop := ∀ H H' v e, R H v e → NL H H' → R H' v e
def WsR (R : Hp → V → Ex → Prop) (H : Hp) (ws : List V) (ps : List Ex) : Prop := Paired (R H) ws ps
theorem WsR.nl {R : Hp → V → Ex → Prop} (st : Stab R) {H H' : Hp} {ws : List V} {ps : List Ex} (h : WsR R H ws ps) (n : NL H H') : WsR R H' ws ps := Paired.mapP h fun v p r => st _ _ _ _ r n
/-- what the functions do that are handed over -/
def LtrF (R : Hp → V → Ex → Prop) (e0 : Ex) (H0 : Hp) (tl : Sp) : Prop := ∀ (H : Hp) (c : Nat) (Q : VK) (E : XK), Same H0 H → (97 ≤ c ∧ c ≤ 122) → Fac e0 (.ltr c .nil) → (∀ v H', Same H H' → R H' v (.ltr c .nil) → Q v H') → tl [.str ⟨#[c]⟩] H Q E
def BehF (R : Hp → V → Ex → Prop) (e0 : Ex) (H0 : Hp) (tl : Sp) : Prop := ∀ (H : Hp) (v1 v2 : V) (e1 e2 : Ex) (Q : VK) (E : XK), Same H0 H → R H v1 e1 → R H v2 e2 → e1 ≠ .nil → e2 ≠ .nil → Fac e0 (e1.app e2) → (∀ v H', Same H H' → R H' v (e1.app e2) → Q v H') → tl [v1, v2] H Q E
def StaF (R : Hp → V → Ex → Prop) (bad : Ex → Bool) (Er : Ex → Hp → XK → Prop) (e0 : Ex) (H0 : Hp) (tl : Sp) : Prop := ∀ (H : Hp) (v : V) (x : Ex) (part : PySem.Str) (Q : VK) (E : XK), Same H0 H → R H v x → x ≠ .nil → x.Good → Fac e0 (.star x .nil) → TL.tl part = (Ex.star x .nil).text →
  (bad x = false → ∀ v' H', Same H H' → R H' v' (.star x .nil) → Q v' H') → (bad x = true → Er x H E) → tl [v, .str part] H Q E
theorem BehF.later {R : Hp → V → Ex → Prop} {e : Ex} {H0 H : Hp} {tl : Sp} (h : BehF R e H0 tl) (s : Same H0 H) : BehF R e H tl := fun H' v1 v2 e1 e2 Q E s' => h H' v1 v2 e1 e2 Q E (s.trans s')
theorem comb_len : ∀ {d : List Ex}, (∀ p ∈ d, Ex.Single p) → d.length ≤ (Ex.comb d).text.length
  | [], _ => Nat.zero_le _
  | p :: ps, h => by
    have ih := comb_len (d := ps) fun q hq => h q (List.mem_cons_of_mem _ hq)
    show ps.length + 1 ≤ (p.app (Ex.comb ps)).text.length
    rw [Ex.text_app, List.length_append]
    have : 1 ≤ p.text.length := by cases h p (List.mem_cons_self ..) <;> simp [Ex.text]
    omega
theorem before_len (fs : List Fr) (d : List Ex) : (Ex.comb d).text.length ≤ (Zp.before fs d).length := by
  cases fs with
  | nil => exact Nat.le_refl _
  | cons f fs =>
    show _ ≤ (Zp.before fs f.done ++ 40 :: (Ex.comb d).text).length
    rw [List.length_append, List.length_cons]
    omega
theorem before_fs : ∀ (fs : List Fr) (d : List Ex), fs.length ≤ (Zp.before fs d).length
  | [], _ => Nat.zero_le _
  | f :: fs, d => by
    have ih := before_fs fs f.done
    show fs.length + 1 ≤ (Zp.before fs f.done ++ 40 :: (Ex.comb d).text).length
    rw [List.length_append, List.length_cons]
    omega
theorem tl_cutE (z : PySem.Str) {b e : Nat} (h : b ≤ e) : TL.tl (cutS z (some (b : Int)) (some (e : Int))) = ((TL.tl z).drop b).take (e - b) := by
  rw [tl_cutB z h, List.drop_take]
theorem Zp.Ok.dlen {T : List Nat} {e : Ex} {bad : Ex → Bool} {fs : List Fr} {d : List Ex} {t : Ex} (h : Zp.Ok T e bad fs d t) : d.length ≤ T.length := by
  have h1 := comb_len h.one
  have h2 := before_len fs d
  have h3 := congrArg List.length h.txt
  rw [List.length_append] at h3
  omega
def spOneBehind (K : PySem.W.Frag) : SpF := fun vs fl H Q E => ∃ (R : Hp → V → Ex → Prop) (e0 : Ex) (L fb : Addr) (tl : Sp) (ws : List V) (ps : List Ex), vs = [.ref L, .ref fb] ∧ fl = [(fb, tl)] ∧ Stab R ∧ BehF R e0 H tl ∧ SqL K H L ws ∧ WsR R H ws ps ∧ ps ≠ [] ∧ (∀ p ∈ ps, Ex.Single p) ∧ Fac e0 (Ex.comb ps) ∧ ps.length ≤ 100000 ∧
  ∀ v H', Same H H' → R H' v (Ex.comb ps) → Q v H'
def spPutT (K : PySem.W.Frag) : SpF := fun vs fl H Q E => ∃ (R : Hp → V → Ex → Prop) (bad : Ex → Bool) (Er : Ex → Hp → XK → Prop) (z : PySem.Str) (e : Ex) (f1 f2 f3 : Addr) (t1 t2 t3 : Sp), vs = [.str z, .ref f1, .ref f2, .ref f3] ∧ fl = [(f1, t1), (f2, t2), (f3, t3)] ∧ Stab R ∧ e.text = TL.tl z ∧ e.Good ∧ e ≠ .nil ∧ z.length ≤ 100000 ∧
  LtrF R e H t1 ∧ BehF R e H t2 ∧ StaF R bad Er e H t3 ∧ (Ex.fb bad e = none → ∀ v H', Same H H' → R H' v e → Q v H') ∧ (∀ x, Ex.fb bad e = some x → ∀ H', Same H H' → Er x H' E)
end Bz

namespace Pf
open PySem PySem.Spec PyProof.Rows L2 Bz
def top (i : Nat) : Stmt := PySem.Challenge.pw_enoughpaid_k47_expressions_read.main.body.getD i (.Pass ⟨0, 0, 0, 0⟩)
abbrev s_BadNumber___init__ : Stmt := inClass (top 2) 0
abbrev N_BadNumber___init__ : List PySem.Str := ["self", "number"]
theorem sc_BadNumber___init__ : FnScope N_BadNumber___init__ ["self", "number"] (defScope s_BadNumber___init__) := ⟨rfl, rfl, rfl, by decide +kernel, rfl, by decide +kernel, by decide +kernel⟩
abbrev s_BadExpression___init__ : Stmt := inClass (top 3) 0
abbrev N_BadExpression___init__ : List PySem.Str := ["self", "place"]
theorem sc_BadExpression___init__ : FnScope N_BadExpression___init__ ["self", "place"] (defScope s_BadExpression___init__) := ⟨rfl, rfl, rfl, by decide +kernel, rfl, by decide +kernel, by decide +kernel⟩
abbrev s_is_integer : Stmt := top 5
abbrev N_is_integer : List PySem.Str := ["value"]
theorem sc_is_integer : FnScope N_is_integer ["value"] (defScope s_is_integer) := ⟨rfl, rfl, rfl, by decide +kernel, rfl, by decide +kernel, by decide +kernel⟩
abbrev s_has_only_letters : Stmt := top 6
abbrev N_has_only_letters : List PySem.Str := ["text"]
theorem sc_has_only_letters : FnScope N_has_only_letters ["text"] (defScope s_has_only_letters) := ⟨rfl, rfl, rfl, by decide +kernel, rfl, by decide +kernel, by decide +kernel⟩
abbrev s_is_letter : Stmt := top 7
abbrev N_is_letter : List PySem.Str := ["value"]
theorem sc_is_letter : FnScope N_is_letter ["value"] (defScope s_is_letter) := ⟨rfl, rfl, rfl, by decide +kernel, rfl, by decide +kernel, by decide +kernel⟩
abbrev s_stars : Stmt := top 10
abbrev N_stars : List PySem.Str := ["text"]
theorem sc_stars : FnScope N_stars ["text"] (defScope s_stars) := ⟨rfl, rfl, rfl, by decide +kernel, rfl, by decide +kernel, by decide +kernel⟩
abbrev s_letters : Stmt := top 11
abbrev N_letters : List PySem.Str := ["text", "sign"]
theorem sc_letters : FnScope N_letters ["text"] (defScope s_letters) := ⟨rfl, rfl, rfl, by decide +kernel, rfl, by decide +kernel, by decide +kernel⟩
abbrev s_row_of : Stmt := top 12
abbrev N_row_of : List PySem.Str := ["text", "n"]
theorem sc_row_of : FnScope N_row_of ["text", "n"] (defScope s_row_of) := ⟨rfl, rfl, rfl, by decide +kernel, rfl, by decide +kernel, by decide +kernel⟩
abbrev s_check_expression : Stmt := top 13
abbrev N_check_expression : List PySem.Str := ["text", "place"]
theorem sc_check_expression : FnScope N_check_expression ["text"] (defScope s_check_expression) := ⟨rfl, rfl, rfl, by decide +kernel, rfl, by decide +kernel, by decide +kernel⟩
abbrev s_wrong_place : Stmt := top 14
abbrev N_wrong_place : List PySem.Str := ["text", "depth", "before", "place", "sign", "has_ended"]
theorem sc_wrong_place : FnScope N_wrong_place ["text"] (defScope s_wrong_place) := ⟨rfl, rfl, rfl, by decide +kernel, rfl, by decide +kernel, by decide +kernel⟩
abbrev s_may_follow : Stmt := top 15
abbrev N_may_follow : List PySem.Str := ["before", "sign", "depth"]
theorem sc_may_follow : FnScope N_may_follow ["before", "sign", "depth"] (defScope s_may_follow) := ⟨rfl, rfl, rfl, by decide +kernel, rfl, by decide +kernel, by decide +kernel⟩
abbrev s_put_together : Stmt := top 16
abbrev N_put_together : List PySem.Str := ["text", "of_letter", "behind", "starred", "waiting", "worths", "place", "sign", "inner", "begin"]
theorem sc_put_together : FnScope N_put_together ["text", "of_letter", "behind", "starred"] (defScope s_put_together) := ⟨rfl, rfl, rfl, by decide +kernel, rfl, by decide +kernel, by decide +kernel⟩
abbrev s_one_behind_the_other : Stmt := top 17
abbrev N_one_behind_the_other : List PySem.Str := ["worths", "behind", "total", "worth"]
theorem sc_one_behind_the_other : FnScope N_one_behind_the_other ["worths", "behind"] (defScope s_one_behind_the_other) := ⟨rfl, rfl, rfl, by decide +kernel, rfl, by decide +kernel, by decide +kernel⟩
abbrev s__law_source : Stmt := top 19
abbrev N__law_source : List PySem.Str := ["_law_script", "_law_great", "_law_seed", "_law_cell"]
theorem sc__law_source : FnScope N__law_source ["_law_script"] (defScope s__law_source) := ⟨rfl, rfl, rfl, by decide +kernel, rfl, by decide +kernel, by decide +kernel⟩
abbrev s__law_draw : Stmt := top 20
abbrev N__law_draw : List PySem.Str := ["_law_source_here", "_law_many", "_law_digit", "_law_mixed"]
theorem sc__law_draw : FnScope N__law_draw ["_law_source_here", "_law_many"] (defScope s__law_draw) := ⟨rfl, rfl, rfl, by decide +kernel, rfl, by decide +kernel, by decide +kernel⟩
abbrev s__law_pick : Stmt := top 21
abbrev N__law_pick : List PySem.Str := ["_law_source_here", "_law_things"]
theorem sc__law_pick : FnScope N__law_pick ["_law_source_here", "_law_things"] (defScope s__law_pick) := ⟨rfl, rfl, rfl, by decide +kernel, rfl, by decide +kernel, by decide +kernel⟩
abbrev s__law_expanded : Stmt := top 22
abbrev N__law_expanded : List PySem.Str := ["_law_text", "_law_n", "_law_rows", "_law_sign", "_law_inner"]
theorem sc__law_expanded : FnScope N__law_expanded ["_law_text", "_law_n"] (defScope s__law_expanded) := ⟨rfl, rfl, rfl, by decide +kernel, rfl, by decide +kernel, by decide +kernel⟩
abbrev s__law_expression : Stmt := top 23
abbrev N__law_expression : List PySem.Str := ["_law_source_here", "_law_signs", "_law_deep", "_law_text", "_law_k"]
theorem sc__law_expression : FnScope N__law_expression ["_law_source_here", "_law_signs", "_law_deep"] (defScope s__law_expression) := ⟨rfl, rfl, rfl, by decide +kernel, rfl, by decide +kernel, by decide +kernel⟩
abbrev s__law_key : Stmt := top 24
abbrev N__law_key : List PySem.Str := ["_law_text"]
theorem sc__law_key : FnScope N__law_key ["_law_text"] (defScope s__law_key) := ⟨rfl, rfl, rfl, by decide +kernel, rfl, by decide +kernel, by decide +kernel⟩
abbrev s_law : Stmt := top 25
abbrev N_law : List PySem.Str := ["_law_script", "_law_source_here", "_law_turn", "_law_text", "_law_key_here", "_law_n"]
theorem sc_law : FnScope N_law ["_law_script"] (defScope s_law) := ⟨rfl, rfl, rfl, by decide +kernel, rfl, by decide +kernel, by decide +kernel⟩
structure Cl where
  BadNumber : Addr
  BadExpression : Addr
  c_row_of : Addr
  P_row_of : Addr
structure Facts (K : PySem.W.Frag) (mg : PySem.Str → Option Value) (kl : Cl) : Prop where
  x_BadNumber : Err1 K mg "BadNumber" "BadNumber.__init__" "number" kl.BadNumber s_BadNumber___init__
  x_BadExpression : Err1 K mg "BadExpression" "BadExpression.__init__" "place" kl.BadExpression s_BadExpression___init__
  d_is_integer : DefAt K mg "is_integer" s_is_integer ["value"]
  d_has_only_letters : DefAt K mg "has_only_letters" s_has_only_letters ["text"]
  d_is_letter : DefAt K mg "is_letter" s_is_letter ["value"]
  d_stars : DefAt K mg "stars" s_stars ["text"]
  d_letters : DefAt K mg "letters" s_letters ["text"]
  d_row_of : DefAt K mg "row_of" s_row_of ["text", "n"]
  l_row_of : DefAtL K mg "row_of" s_row_of ["text", "n"] kl.c_row_of
  d_check_expression : DefAt K mg "check_expression" s_check_expression ["text"]
  d_wrong_place : DefAt K mg "wrong_place" s_wrong_place ["text"]
  d_may_follow : DefAt K mg "may_follow" s_may_follow ["before", "sign", "depth"]
  d_put_together : DefAt K mg "put_together" s_put_together ["text", "of_letter", "behind", "starred"]
  d_one_behind_the_other : DefAt K mg "one_behind_the_other" s_one_behind_the_other ["worths", "behind"]
  d__law_source : DefAt K mg "_law_source" s__law_source ["_law_script"]
  d__law_draw : DefAt K mg "_law_draw" s__law_draw ["_law_source_here", "_law_many"]
  d__law_pick : DefAt K mg "_law_pick" s__law_pick ["_law_source_here", "_law_things"]
  d__law_expanded : DefAt K mg "_law_expanded" s__law_expanded ["_law_text", "_law_n"]
  d__law_expression : DefAt K mg "_law_expression" s__law_expression ["_law_source_here", "_law_signs", "_law_deep"]
  d__law_key : DefAt K mg "_law_key" s__law_key ["_law_text"]
  d_law : DefAt K mg "law" s_law ["_law_script"]
  b_int : mg "int" = none
  b_len : mg "len" = none
  b_range : mg "range" = none
  b_str : mg "str" = none
  b_isinstance : mg "isinstance" = none
  b_enumerate : mg "enumerate" = none
  b_bool : mg "bool" = none
  b_ValueError : mg "ValueError" = none
  c_SIGNS_OF_A_STAR : ∃ t, mg "SIGNS_OF_A_STAR" = some (.str ")*" t)
/-- what is known with the tables of code objects -/
structure FactsT (K : PySem.W.Frag) (mg : PySem.Str → Option Value) (base : Heap) (kl : Cl) : Prop extends Facts K mg kl where
  tb_row_of : LamX.TabB base mg kl.c_row_of kl.P_row_of
abbrev tabsOf (kl : Cl) : List (Addr × PySem.Str) := [(kl.P_row_of, ("row_of" ++ ".<locals>.") ++ "<lambda>")]
end Pf

namespace Pf
open PySem PySem.Spec PyProof.Rows L2 Bz
local macro_rules | `(tactic| walk_at "sd") => `(tactic| first
  | rfl | assumption | omega | exact Nat.le_of_ble_eq_true rfl | decide | (refine Or.inl (And.intro ?_ ?_) <;> omega) | (refine Or.inr (And.intro ?_ ?_) <;> omega) | (refine And.intro ?_ ?_ <;> omega) | (refine ⟨?_, ?_, ?_⟩ <;> omega))
local macro_rules | `(tactic| walk_at "sq") => `(tactic| first | assumption | exact SqL.of (by assumption) | exact SqT.of (by assumption) | exact SqL.of upd_same | exact SqT.of upd_same)
local macro_rules | `(tactic| walk_at "hp") => `(tactic| first | assumption | exact upd_same)
local macro_rules | `(tactic| walk_at "rd") => `(tactic| repeat (first
  | (refine ⟨_, rfl, ?_⟩) | (refine ⟨_, _, rfl, rfl, ?_⟩) | (refine ⟨rfl, ?_⟩) | (refine And.intro (by walk_at "sd") ?_)
  | (refine ⟨_, _, _, _, rfl, rfl, (by walk_at "sq"), rfl, ?_⟩)
  | (refine ⟨_, _, _, _, rfl, rfl, (by walk_at "hp"), rfl, ?_⟩)
  | (refine Or.inl ⟨_, rfl, ?_⟩)))
section
variable {P : Program} {w : World} {K : PySem.W.Frag} {mg : PySem.Str → Option Value} {base : Heap} {kl : Cl}
theorem ok_has_only_letters (T : FactsT K mg base kl) : Keeps P w K mg base CX0 1 "has_only_letters" ["text"] spOnly := by
  refine keeps0 T.d_has_only_letters sc_has_only_letters (fun vs H Q E h => ?_) (fun f cdv A outer s H vs Q E hr h => ?_)
  · obtain ⟨s, rfl, _⟩ := h
    rfl
  · obtain ⟨z, rfl, k⟩ := h
    refine ⟨_, (pss_one (ps_ret (pe_and (kbm0 K PySem.F.plainAttrs_str PySem.F.slot_str_isascii PySem.F.type_str_isascii mt_isascii (pv 0)) (pe_and (pe_m0 PySem.F.slot_str_isalpha PySem.F.type_str_isalpha mt_isalpha (pv 0)) (pe_one (kbm0 K PySem.F.plainAttrs_str PySem.F.slot_str_islower PySem.F.type_str_islower mt_islower (pv 0))))))), ?_⟩
    rw [← only_ok] at k
    refine ⟨_, rfl, rfl, z, rfl, rfl, trivial, _, rfl, ite2 (fun h1 => ?_) (fun h1 => ?_)⟩
    · refine ⟨_, rfl, ⟨_, rfl⟩, z, rfl, rfl, trivial, _, rfl, ite2 (fun h2 => ?_) (fun h2 => ?_)⟩
      · refine ⟨_, rfl, rfl, z, rfl, rfl, trivial, ?_⟩
        rw [h1, h2] at k
        exact k
      · have h2' : Txt.isalpha z = false := by simpa using h2
        rw [h1, h2'] at k
        exact k
    · have h1' : Txt.isascii z = false := by simpa using h1
      rw [h1'] at k
      exact k

end
end Pf

namespace Pf
open PySem PySem.Spec PyProof.Rows L2 Bz
local macro_rules | `(tactic| walk_at "sd") => `(tactic| first
  | rfl | assumption | omega | exact Nat.le_of_ble_eq_true rfl | decide | (refine Or.inl (And.intro ?_ ?_) <;> omega) | (refine Or.inr (And.intro ?_ ?_) <;> omega) | (refine And.intro ?_ ?_ <;> omega) | (refine ⟨?_, ?_, ?_⟩ <;> omega))
local macro_rules | `(tactic| walk_at "sq") => `(tactic| first | assumption | exact SqL.of (by assumption) | exact SqT.of (by assumption) | exact SqL.of upd_same | exact SqT.of upd_same)
local macro_rules | `(tactic| walk_at "hp") => `(tactic| first | assumption | exact upd_same)
local macro_rules | `(tactic| walk_at "rd") => `(tactic| repeat (first
  | (refine ⟨_, rfl, ?_⟩) | (refine ⟨_, _, rfl, rfl, ?_⟩) | (refine ⟨rfl, ?_⟩) | (refine And.intro (by walk_at "sd") ?_)
  | (refine ⟨_, _, _, _, rfl, rfl, (by walk_at "sq"), rfl, ?_⟩)
  | (refine ⟨_, _, _, _, rfl, rfl, (by walk_at "hp"), rfl, ?_⟩)
  | (refine Or.inl ⟨_, rfl, ?_⟩)))
section
variable {P : Program} {w : World} {K : PySem.W.Frag} {mg : PySem.Str → Option Value} {base : Heap} {kl : Cl}
theorem ok_is_letter (T : FactsT K mg base kl) : Keeps P w K mg base CX0 2 "is_letter" ["value"] spIsLetV := by
  refine keeps0 T.d_is_letter sc_is_letter (fun vs H Q E h => ?_) (fun f cdv A outer s H vs Q E hr h => ?_)
  · obtain ⟨v, t, rfl, _⟩ := h
    rfl
  · obtain ⟨v, t, rfl, kn, k⟩ := h
    refine ⟨_, (pss_one (ps_ret (pe_and (pe_callB (kisi K) (by rfl) T.b_isinstance (by decide +kernel) (pa_cons (pv 0) (pa_cons (pe_bltn (v := .ty "str") (by rfl) T.b_str (by decide +kernel) rfl) pa_nil))) (pe_and (pe_cmpR op_eq (pe_callB call_len_str (by rfl) T.b_len (by decide +kernel) (pa_cons (pv 0) pa_nil)) pe_int (nomark _)) (pe_one (pe_own (ok_has_only_letters T) hr (pa_cons (pv 0) pa_nil))))))), ?_⟩
    obtain ⟨_, _, k3, _⟩ := kit_in (K := K) kn.mem
    refine ⟨_, rfl, _, _, _, _, decide (t = "str"), rfl, .ty "str", kn.ty, k3, _, rfl, ?_⟩
    cases kn with
    | str z hz =>
      refine iteT ?_
      have k : Q (.bl (ltB z)) H := k
      refine ⟨_, rfl, _, rfl, Evl.sz_of hz, rfl, _, rfl, ite2 (fun hc => ?_) (fun hc => ?_)⟩
      · refine ⟨_, rfl, z, rfl, ?_⟩
        have e : decide (z.length = 1) = true := by
          have := of_decide_eq_true hc
          exact decide_eq_true (by have := V.int.inj this; omega)
        unfold ltB at k
        rw [e] at k
        exact k
      · have e : decide (z.length = 1) = false := by
          refine decide_eq_false fun q => hc ?_
          rw [q]
          rfl
        unfold ltB at k
        rw [e] at k
        exact k
    | _ => exact iteF k
/-- one sign -/
def s1 (c : Nat) : PySem.Str := ⟨#[c]⟩
theorem s1_len (c : Nat) : (s1 c).length = 1 := rfl
theorem s1_inj {c d : Nat} (h : s1 c = s1 d) : c = d := by
  have := congrArg TL.tl h
  simpa [TL.tl, s1] using this
theorem deq (b d : Nat) {t : PySem.Str} (h : t = s1 d) : decide (V.str (s1 b) = V.str t) = decide (b = d) := by
  rw [h, Bool.eq_iff_iff, decide_eq_true_iff, decide_eq_true_iff]
  exact ⟨fun z => s1_inj (V.str.inj z), fun z => by rw [z]⟩
theorem sOp : ("(" : PySem.Str) = s1 40 := by decide +kernel
theorem sCl : (")" : PySem.Str) = s1 41 := by decide +kernel
theorem sSt : ("*" : PySem.Str) = s1 42 := by decide +kernel
theorem ltB_s1 (c : Nat) : ltB (s1 c) = decide (97 ≤ c ∧ c ≤ 122) := by
  by_cases h : 97 ≤ c ∧ c ≤ 122
  · rw [decide_eq_true h]
    exact ltB_of ⟨rfl, fun d hd => by
      have : d = c := by simpa [TL.tl, s1] using hd
      rw [this]
      exact h⟩
  · rw [decide_eq_false h]
    cases e : ltB (s1 c) with
    | false => rfl
    | true => exact absurd ((letV_of e).2 c (by simp [TL.tl, s1])) h
def mayB (b c : Nat) (d : Int) : Bool := if b = 41 ∨ c = 42 then decide (b = 41 ∧ c = 42) else if c = 41 then decide (d > 0 ∧ b ≠ 40) else decide (c = 40 ∨ (97 ≤ c ∧ c ≤ 122))
def spMay : Sp := fun vs H Q _ => ∃ (b c : Nat) (d : Int), vs = [.str (s1 b), .str (s1 c), .int d] ∧ Q (.bl (mayB b c d)) H
theorem ok_may_follow (T : FactsT K mg base kl) : Keeps P w K mg base CX0 3 "may_follow" ["before", "sign", "depth"] spMay := by
  refine keeps0 T.d_may_follow sc_may_follow (fun vs H Q E h => ?_) (fun f cdv A outer s H vs Q E hr h => ?_)
  · obtain ⟨b, c, d, rfl, _⟩ := h
    rfl
  · obtain ⟨b, c, d, rfl, k⟩ := h
    refine ⟨_, (pss_cons (ps_if (PW.pt (pw_or (pt_cmpR op_eq (pv 0) pe_str (nomark _)) (pw_or1 (pt_cmpR op_eq (pv 1) pe_str (nomark _)))))
  (pss_one (ps_ret (pe_cmpR op_eq (pe_op op_add_str (pv 0) (pv 1)) (pe_cstS T.c_SIGNS_OF_A_STAR) (nomark _))))
  pss_nil)
  (pss_cons (ps_if (pt_cmpR op_eq (pv 1) pe_str (nomark _))
  (pss_one (ps_ret (pe_and (pe_cmpR op_gt (pv 2) pe_int (nomark _)) (pe_one (pe_cmpR op_ne (pv 0) pe_str (nomark _))))))
  pss_nil)
  (pss_one (ps_ret (pe_or (pe_cmpR op_eq (pv 1) pe_str (nomark _)) (pe_one (pe_own (ok_is_letter T) hr (pa_cons (pv 1) pa_nil)))))))), ?_⟩
    have both : b = 41 ∨ c = 42 → Q (.bl (decide (b = 41 ∧ c = 42))) H := fun h => by
      unfold mayB at k
      rw [if_pos h] at k
      exact k
    have eqq : decide (V.str (s1 b ++ s1 c) = V.str ")*") = decide (b = 41 ∧ c = 42) := by
      rw [show (")*" : PySem.Str) = s1 41 ++ s1 42 from by decide +kernel, Bool.eq_iff_iff, decide_eq_true_iff, decide_eq_true_iff]
      constructor
      · intro z
        have := congrArg TL.tl (V.str.inj z)
        rw [TL.tl_append, TL.tl_append] at this
        simpa [TL.tl, s1] using this
      · rintro ⟨rfl, rfl⟩
        rfl
    refine ⟨_, rfl, rfl, _, rfl, ?_⟩
    rw [deq b 41 sCl]
    have l2 : (s1 b).length + (s1 c).length ≤ sizeLine := Nat.le_of_ble_eq_true rfl
    refine ite2 (fun h1 => ?_) (fun h1 => ?_)
    · refine ⟨_, rfl, _, rfl, _, _, rfl, rfl, l2, rfl, ?_⟩
      rw [eqq]
      exact both (.inl (of_decide_eq_true h1))
    · have n1 : ¬ b = 41 := fun z => h1 (decide_eq_true z)
      refine ⟨_, rfl, rfl, _, rfl, ?_⟩
      rw [deq c 42 sSt]
      refine ite2 (fun h2 => ?_) (fun h2 => ?_)
      · refine ⟨_, rfl, _, rfl, _, _, rfl, rfl, l2, rfl, ?_⟩
        rw [eqq]
        exact both (.inr (of_decide_eq_true h2))
      · have n2 : ¬ c = 42 := fun z => h2 (decide_eq_true z)
        unfold mayB at k
        rw [if_neg (fun z => z.elim n1 n2)] at k
        refine ⟨_, rfl, rfl, _, rfl, ?_⟩
        rw [deq c 41 sCl]
        refine ite2 (fun h3 => ?_) (fun h3 => ?_)
        · rw [if_pos (of_decide_eq_true h3)] at k
          refine ⟨_, rfl, _, _, rfl, rfl, _, rfl, ite2 (fun h4 => ?_) (fun h4 => ?_)⟩
          · refine ⟨_, rfl, rfl, ?_⟩
            rw [deq b 40 sOp]
            have h4' : d > 0 := of_decide_eq_true h4
            have e : (!decide (b = 40)) = decide (d > 0 ∧ b ≠ 40) := by
              rw [Bool.eq_iff_iff]
              simp [h4']
            rw [e]
            exact k
          · have h4' : ¬ d > 0 := fun z => h4 (decide_eq_true z)
            rw [show decide (d > 0 ∧ b ≠ 40) = false from decide_eq_false fun z => h4' z.1] at k
            exact k
        · have n3 : ¬ c = 41 := fun z => h3 (decide_eq_true z)
          rw [if_neg n3] at k
          refine ⟨_, rfl, rfl, _, rfl, ?_⟩
          rw [deq c 40 sOp]
          refine ite2 (fun h4 => ?_) (fun h4 => ?_)
          · rw [show decide (c = 40 ∨ (97 ≤ c ∧ c ≤ 122)) = true from decide_eq_true (.inl (of_decide_eq_true h4))] at k
            exact k
          · have n4 : ¬ c = 40 := fun z => h4 (decide_eq_true z)
            refine ⟨_, rfl, .str (s1 c), "str", rfl, .str _ (by rw [s1_len]; decide), ?_⟩
            show Q (.bl (ltB (s1 c))) H
            rw [ltB_s1]
            rw [show decide (c = 40 ∨ (97 ≤ c ∧ c ≤ 122)) = decide (97 ≤ c ∧ c ≤ 122) from by rw [Bool.eq_iff_iff, decide_eq_true_iff, decide_eq_true_iff]; exact ⟨fun z => z.elim (fun z => absurd z n4) id, .inr⟩] at k
            exact k
/-- what stands last: a bracket that opens just where nothing stands behind it -/
structure LstOk (d : List Ex) (l : Nat) : Prop where
  nil : d = [] → l = 40
  some : d ≠ [] → l ≠ 40 ∧ l ≠ 41
def spWrong : Sp := fun vs H Q _ => ∃ (z : PySem.Str) (e : Ex), vs = [.str z] ∧ e.text = TL.tl z ∧ e.Good ∧ e ≠ .nil ∧ z.length ≤ 100000 ∧ ∀ H', Same H H' → Q .non H'
theorem ok_wrong_place (T : FactsT K mg base kl) : Keeps P w K mg base CX0 4 "wrong_place" ["text"] spWrong := by
  refine keeps0 T.d_wrong_place sc_wrong_place (fun vs H Q E h => ?_) (fun f cdv A outer s H vs Q E hr h => ?_)
  · obtain ⟨z, e, rfl, _⟩ := h
    rfl
  · obtain ⟨z, e, rfl, he, hg, hn, hz, k⟩ := h
    refine ⟨_, (pss_cons (ps_set (i := 1) sc_wrong_place.nd rfl (Or.inl rfl) pe_int)
  (pss_cons (ps_set (i := 2) sc_wrong_place.nd rfl (Or.inl rfl) pe_str)
  (pss_cons (ps_for PassesOwn.never rfl (pi_enumT (by rfl) T.b_enumerate (pa_cons (pv 0) pa_nil)) (kpg_tup K rfl (pgs_cons (pg_name (i := 3) sc_wrong_place.nd rfl (Or.inl rfl)) (pgs_cons (pg_name (i := 4) sc_wrong_place.nd rfl (Or.inl rfl)) pgs_nil)))
  (pss_cons (ps_if (pt_not (pt_val (pe_own (ok_may_follow T) hr (pa_cons (pv 2) (pa_cons (pv 4) (pa_cons (pv 1) pa_nil))))))
  (pss_one (ps_ret (pv 3)))
  pss_nil)
  (Evl.pss_cut (ps_if (pt_cmpR op_eq (pv 4) pe_str (nomark _))
  (pss_one (ps_aug (i := 1) sc_wrong_place.nd rfl (Or.inl rfl) pe_int ip_add))
  pss_nil)
  (Evl.pss_cut (ps_if (pt_cmpR op_eq (pv 4) pe_str (nomark _))
  (pss_one (ps_aug (i := 1) sc_wrong_place.nd rfl (Or.inl rfl) pe_int ip_sub))
  pss_nil)
  (pss_one (ps_set (i := 2) sc_wrong_place.nd rfl (Or.inl rfl) (pv 4)))))))
  (pss_cons (ps_set (i := 5) sc_wrong_place.nd rfl (Or.inl rfl) (pe_and (pe_cmpR op_eq (pv 1) pe_int (nomark _)) (pe_one (pe_cmpR (knotIn_seq K) (pv 2) (pe_tup (pa_cons pe_str (pa_cons pe_str pa_nil))) (by rfl)))))
  (pss_one (ps_ret (pe_ifExp (pt_val (pv 5)) pe_non (pe_callB call_len_str (by rfl) T.b_len (by decide +kernel) (pa_cons (pv 0) pa_nil))))))))), ?_⟩
    have zl : (TL.tl z).length = z.cps.size := by rw [← len_tl]; rfl
    refine ⟨_, rfl, z, rfl, for_it walk_enumT (fun i σ H' => ∃ (v3 v4 : Option V) (b dp : Nat) (fs : List Fr) (d : List Ex) (t : Ex), σ = [some (.str z), some (.int (dp : Int)), some (.str (s1 b)), v3, v4, none] ∧ Zp.Ok (TL.tl z) e (fun _ => false) fs d t ∧ dp = fs.length ∧
      ((b = 41 ∧ d ≠ [] ∧ i + 1 = (Zp.before fs d).length ∧ (TL.tl z)[i]? = some 42) ∨ (LstOk d b ∧ i = (Zp.before fs d).length)) ∧ Same H H') ⟨_, _, 40, 0, [], [], e, rfl, Zp.start he hg, rfl, .inr ⟨⟨fun _ => rfl, fun h => absurd rfl h⟩, rfl⟩, .refl H⟩ (fun _ _ _ _ _ => trivial) ?_ ?_⟩
    · rintro i x σ H4 H5 hi ⟨v3, v4, b, dp, fs, d, t, rfl, hO, rfl, hS, s4⟩ ⟨qe, c, rfl, hqe, rfl, hc⟩
      have s5 : Same H4 (upd H4 qe (.tup [.int (i : Int), .str ⟨#[c]⟩])) := same_new hqe
      have S5 := s4.trans s5
      have hcT : (TL.tl z)[i]? = some c := by
        rw [← hc]
        show z.cps.toList[i]? = z.cps[i]?
        simp
      refine ⟨qe, _, rfl, SqT.of upd_same, rfl, _, _, rfl, _, _, rfl, rfl, ?_⟩
      have key : mayB b c (fs.length : Int) = true ∧ ∃ (fs' : List Fr) (d' : List Ex) (t' : Ex), Zp.Ok (TL.tl z) e (fun _ => false) fs' d' t' ∧ (fs.length : Int) + (if c = 40 then 1 else 0) - (if c = 41 then 1 else 0) = (fs'.length : Int) ∧
          ((c = 41 ∧ d' ≠ [] ∧ i + 1 + 1 = (Zp.before fs' d').length ∧ (TL.tl z)[i + 1]? = some 42) ∨ (LstOk d' c ∧ i + 1 = (Zp.before fs' d').length)) := by
        rcases hS with ⟨hb, hd, hl, h42⟩ | ⟨hL, hl⟩
        · rw [h42] at hcT
          obtain rfl := Option.some.inj hcT
          refine ⟨?_, fs, d, t, hO, by simp, .inr ⟨⟨fun q => absurd q hd, fun _ => ⟨by decide, by decide⟩⟩, hl⟩⟩
          unfold mayB
          rw [if_pos (.inr rfl)]
          exact decide_eq_true ⟨hb, rfl⟩
        · have lt : (Zp.before fs d).length < (TL.tl z).length := by rw [← hl, zl]; exact hi
          have nb : b ≠ 41 := by
            by_cases q : d = []
            · rw [hL.nil q]
              decide
            · exact (hL.some q).2
          rcases hO.more lt with ⟨x, r, rfl⟩ | ⟨x, r, rfl⟩ | ⟨rfl, f', gs, rfl⟩
          · obtain ⟨o1, o2, o3, o4⟩ := hO.letter
            rw [← hl, hcT] at o2
            obtain rfl := Option.some.inj o2
            refine ⟨?_, fs, _, r, o1, ?_, .inr ⟨⟨fun q => absurd q (by simp), fun _ => ⟨by omega, by omega⟩⟩, by rw [o4, hl]⟩⟩
            · unfold mayB
              rw [if_neg (fun q => q.elim nb (by omega)), if_neg (by omega)]
              exact decide_eq_true (.inr o3)
            · rw [if_neg (by omega), if_neg (by omega)]
              omega
          · obtain ⟨o1, o2, o3⟩ := hO.open
            rw [← hl, hcT] at o2
            obtain rfl := Option.some.inj o2
            refine ⟨?_, _, [], x, o1, ?_, .inr ⟨⟨fun _ => rfl, fun q => absurd rfl q⟩, by rw [o3, hl]⟩⟩
            · unfold mayB
              rw [if_neg (fun q => q.elim nb (by decide)), if_neg (by decide)]
              exact decide_eq_true (.inl rfl)
            · rw [if_pos rfl, if_neg (by decide), List.length_cons]
              omega
          · obtain ⟨o1, o2, o3, o4, o5, o6, o7, o8⟩ := hO.close
            rw [← hl, hcT] at o1
            obtain rfl := Option.some.inj o1
            rw [← hl] at o2
            refine ⟨?_, gs, _, _, o7 rfl, ?_, .inl ⟨rfl, by simp, by rw [o8, hl], o2⟩⟩
            · unfold mayB
              rw [if_neg (fun q => q.elim nb (by decide)), if_pos rfl]
              refine decide_eq_true ⟨?_, (hL.some o3).1⟩
              rw [List.length_cons]
              omega
            · rw [if_neg (by decide), if_pos rfl, List.length_cons]
              omega
      obtain ⟨hm, fs', d', t', hO', hdp, hS'⟩ := key
      refine ⟨_, rfl, _, rfl, _, rfl, b, c, (fs.length : Int), rfl, ?_⟩
      rw [hm]
      refine ⟨_, rfl, iteF ?_⟩
      refine ⟨fun σ' H' => σ' = [some (.str z), some (.int ((fs.length : Int) + (if c = 40 then 1 else 0))), some (.str (s1 b)), some (.int (i : Int)), some (.str (s1 c)), none] ∧ H' = upd H4 qe (.tup [.int (i : Int), .str ⟨#[c]⟩]), ?_, ?_⟩
      · refine ⟨_, rfl, rfl, _, rfl, ?_⟩
        rw [show decide (V.str (⟨#[c]⟩ : PySem.Str) = V.str "(") = decide (c = 40) from deq c 40 sOp]
        refine ite2 (fun q => ?_) (fun q => ?_)
        · refine ⟨_, rfl, _, _, rfl, rfl, ?_⟩
          rw [if_pos (of_decide_eq_true q)]
          exact ⟨rfl, rfl⟩
        · rw [if_neg (fun w => q (decide_eq_true w)), Int.add_zero]
          exact ⟨rfl, rfl⟩
      · rintro σ' H' ⟨rfl, rfl⟩
        refine ⟨fun σ' H' => σ' = [some (.str z), some (.int (fs'.length : Int)), some (.str (s1 b)), some (.int (i : Int)), some (.str (s1 c)), none] ∧ H' = upd H4 qe (.tup [.int (i : Int), .str ⟨#[c]⟩]), ?_, ?_⟩
        · refine ⟨_, rfl, rfl, _, rfl, ?_⟩
          rw [show decide (V.str (s1 c) = V.str ")") = decide (c = 41) from deq c 41 sCl]
          refine ite2 (fun q => ?_) (fun q => ?_)
          · refine ⟨_, rfl, _, _, rfl, rfl, ?_⟩
            rw [if_pos (of_decide_eq_true q)] at hdp
            rw [← hdp]
            exact ⟨rfl, rfl⟩
          · rw [if_neg (fun w => q (decide_eq_true w)), Int.sub_zero] at hdp
            rw [hdp]
            exact ⟨rfl, rfl⟩
        · rintro σ' H' ⟨rfl, rfl⟩
          exact ⟨_, rfl, _, _, c, fs'.length, fs', d', t', rfl, hO', rfl, hS', S5⟩
    · rintro σ H4 ⟨v3, v4, b, dp, fs, d, t, rfl, hO, rfl, hS, s4⟩
      have hend : fs = [] ∧ t = .nil ∧ LstOk d b := by
        rcases hS with ⟨hb, hd, hl, h42⟩ | ⟨hL, hl⟩
        · have := (List.getElem?_eq_some_iff.mp h42).1
          omega
        · obtain ⟨h1, h2⟩ := hO.over (by rw [← hl, zl])
          exact ⟨h1, h2, hL⟩
      obtain ⟨rfl, rfl, hL⟩ := hend
      have dn : d ≠ [] := fun q => hn (by rw [← hO.end.2.1, q]; rfl)
      obtain ⟨b1, b2⟩ := hL.some dn
      refine ⟨_, rfl, rfl, _, rfl, ?_⟩
      rw [if_pos (show decide (V.int ((([] : List Fr).length : Nat) : Int) = V.int 0) = true from rfl)]
      refine ⟨_, rfl, Nat.le_of_ble_eq_true rfl, fun tp htp => ?_⟩
      have s5 : Same H4 (upd H4 tp (.tup [.str "(", .str ")"])) := same_new htp
      refine ⟨tp, _, rfl, .inr (SqT.of upd_same), rfl, rfl, ?_⟩
      have nin : (!inV (V.str (s1 b)) [V.str "(", V.str ")"]) = true := by
        have e1 := deq b 40 sOp
        have e2 := deq b 41 sCl
        rw [decide_eq_false b1] at e1
        rw [decide_eq_false b2] at e2
        have f1 : ¬ ("(" : PySem.Str) = s1 b := fun q => of_decide_eq_false e1 (by rw [q])
        have f2 : ¬ (")" : PySem.Str) = s1 b := fun q => of_decide_eq_false e2 (by rw [q])
        simp [inV, eqV, f1, f2]
      rw [if_pos (rfl : true = true), nin]
      exact ⟨_, rfl, _, rfl, iteT (k _ (s4.trans s5))⟩
theorem ok_check_expression (T : FactsT K mg base kl) : Keeps P w K mg base CX0 5 "check_expression" ["text"] spWrong := by
  refine keeps0 T.d_check_expression sc_check_expression (fun vs H Q E h => ?_) (fun f cdv A outer s H vs Q E hr h => ?_)
  · obtain ⟨z, e, rfl, _⟩ := h
    rfl
  · obtain ⟨z, e, rfl, he, hg, hn, hz, k⟩ := h
    refine ⟨_, (pss_cons (ps_if (pt_not (pt_val (pe_callB (kisi K) (by rfl) T.b_isinstance (by decide +kernel) (pa_cons (pv 0) (pa_cons (pe_bltn (v := .ty "str") (by rfl) T.b_str (by decide +kernel) rfl) pa_nil)))))
  (pss_one ps_never)
  pss_nil)
  (pss_cons (ps_set (i := 1) sc_check_expression.nd rfl (Or.inl rfl) (pe_own (ok_wrong_place T) hr (pa_cons (pv 0) pa_nil)))
  (pss_one (ps_if (pt_cmpR op_notN (pv 1) pe_non (nomark _))
  (pss_one ps_never)
  pss_nil)))), ?_⟩
    have kn : Kn H (.str z) "str" := .str z (by omega)
    obtain ⟨_, _, k3, _⟩ := kit_in (K := K) kn.mem
    refine ⟨_, rfl, _, _, _, _, decide ("str" = "str"), rfl, .ty "str", kn.ty, k3, _, rfl, iteF ?_⟩
    refine ⟨_, rfl, z, e, rfl, he, hg, hn, hz, fun H1 s1' => ?_⟩
    exact ⟨_, rfl, rfl, _, rfl, iteF (k H1 s1')⟩
theorem cnt_stars {e : Ex} (h : e.Good) : cnt 42 e.text = (e.stars : Nat) := by
  induction e with
  | nil => exact cnt_nil _
  | ltr c r ih =>
    show cnt 42 (c :: r.text) = (r.stars : Nat)
    rw [cnt_cons, ih h.2, if_neg (by have := h.1; omega)]
    simp
  | star e r ihe ihr =>
    show cnt 42 (40 :: (e.text ++ (41 :: 42 :: r.text))) = ((e.stars + 1 + r.stars : Nat) : Int)
    rw [cnt_cons, cnt_append, cnt_cons, cnt_cons, ihe h.2.1, ihr h.2.2]
    simp
    omega
theorem count_stars {z : PySem.Str} {e : Ex} (he : e.text = TL.tl z) (h : e.Good) : Txt.count z "*" = (e.stars : Nat) := by
  rw [show ("*" : PySem.Str) = ⟨#[42]⟩ from by decide +kernel, count_cnt]
  show cnt 42 (TL.tl z) = _
  rw [← he]
  exact cnt_stars h
def spStars : Sp := fun vs H Q _ => ∃ (z : PySem.Str) (e : Ex), vs = [.str z] ∧ e.text = TL.tl z ∧ e.Good ∧ e ≠ .nil ∧ z.length ≤ 100000 ∧ ∀ H', Same H H' → Q (.int (e.stars : Nat)) H'
theorem ok_stars (T : FactsT K mg base kl) : Keeps P w K mg base CX0 6 "stars" ["text"] spStars := by
  refine keeps0 T.d_stars sc_stars (fun vs H Q E h => ?_) (fun f cdv A outer s H vs Q E hr h => ?_)
  · obtain ⟨z, e, rfl, _⟩ := h
    rfl
  · obtain ⟨z, e, rfl, he, hg, hn, hz, k⟩ := h
    refine ⟨_, (pss_cons (ps_expr (pe_own (ok_check_expression T) hr (pa_cons (pv 0) pa_nil)))
  (pss_one (ps_ret (pe_m1 PySem.F.slot_str_count PySem.F.type_str_count mt_count (pv 0) pe_str)))), ?_⟩
    refine ⟨_, rfl, z, e, rfl, he, hg, hn, hz, fun H1 s1' => ?_⟩
    refine ⟨_, rfl, ⟨_, rfl⟩, z, "*", rfl, rfl, ?_⟩
    rw [count_stars he hg]
    exact k H1 s1'
def ltrB (c : Nat) : Bool := decide (97 ≤ c ∧ c ≤ 122)
theorem lets_filter {e : Ex} (h : e.Good) : (e.text.filter ltrB).length = e.lets := by
  induction e with
  | nil => rfl
  | ltr c r ih =>
    show ((c :: r.text).filter ltrB).length = r.lets + 1
    rw [List.filter_cons_of_pos (show ltrB c = true from decide_eq_true h.1), List.length_cons, ih h.2]
  | star e r ihe ihr =>
    show ((40 :: (e.text ++ (41 :: 42 :: r.text))).filter ltrB).length = e.lets + r.lets
    rw [List.filter_cons_of_neg (by decide), List.filter_append, List.filter_cons_of_neg (by decide), List.filter_cons_of_neg (by decide), List.length_append, ihe h.2.1, ihr h.2.2]
def spLets : Sp := fun vs H Q _ => ∃ (z : PySem.Str) (e : Ex), vs = [.str z] ∧ e.text = TL.tl z ∧ e.Good ∧ e ≠ .nil ∧ z.length ≤ 100000 ∧ ∀ H', Same H H' → Q (.int (e.lets : Nat)) H'
theorem ok_letters (T : FactsT K mg base kl) : Keeps P w K mg base CX0 6 "letters" ["text"] spLets := by
  refine keeps0 T.d_letters sc_letters (fun vs H Q E h => ?_) (fun f cdv A outer s H vs Q E hr h => ?_)
  · obtain ⟨z, e, rfl, _⟩ := h
    rfl
  · obtain ⟨z, e, rfl, he, hg, hn, hz, k⟩ := h
    refine ⟨_, (pss_cons (ps_expr (pe_own (ok_check_expression T) hr (pa_cons (pv 0) pa_nil)))
  (pss_one (ps_ret (pe_callB (kcall_len K) (by rfl) T.b_len (by decide +kernel) (pa_cons (pe_lc (own := [("sign", 1)]) (g := gName 1) rfl sc_letters.nd (pi_str (pv 0)) (blkOk_by (own := [("sign", 1)]) (N := N_letters) (sc := defScope s_letters) (by decide +kernel)) (fun _ _ _ _ _ => (pg_name (i := 1) sc_letters.nd rfl (Or.inl rfl))) (fun _ _ _ _ _ => pts_one (pt_val (pe_own (ok_is_letter T) hr (pa_cons (pv 1) pa_nil)))) (fun _ _ _ _ _ => (pv 1))) pa_nil))))), ?_⟩
    refine ⟨_, rfl, z, e, rfl, he, hg, hn, hz, fun H1 s1' => ?_⟩
    have zl : (TL.tl z).length = z.cps.size := by rw [← len_tl]; rfl
    have zs : z.cps.size ≤ 100000 := hz
    refine ⟨_, rfl, z, rfl, fun D hD => lcA (walk_str (z := z)) (fun i acc H' => acc.length = (((TL.tl z).take i).filter ltrB).length ∧ Same H1 H') ⟨rfl, .refl _⟩ (fun i acc H' o h => ⟨h.1, same_mut h.2 hD⟩) (fun i acc H' _ h => trivial) ?_ ?_⟩
    · rintro i x acc _ H2 hi ⟨hl, s2⟩ hB hl2 ⟨rfl, c, hc, rfl⟩
      have hcT : (TL.tl z)[i]? = some c := by
        rw [← hc]
        show z.cps.toList[i]? = z.cps[i]?
        simp
      have step : (((TL.tl z).take (i + 1)).filter ltrB).length = (((TL.tl z).take i).filter ltrB).length + (if ltrB c = true then 1 else 0) := by
        rw [List.take_add_one, hcT, Option.toList_some, List.filter_append, List.length_append]
        by_cases q : ltrB c = true
        · rw [if_pos q, List.filter_cons_of_pos q]
          rfl
        · rw [if_neg q, List.filter_cons_of_neg q]
          rfl
      refine ⟨rfl, _, rfl, .str (s1 c), "str", rfl, .str _ (by rw [s1_len]; decide), _, rfl, ?_⟩
      rw [show letV (V.str (s1 c)) = ltrB c from ltB_s1 c]
      refine ite2 (fun q => ?_) (fun q => ?_)
      · refine ⟨_, rfl, LcP.put (fun i acc H' o h => ⟨h.1, same_mut h.2 hD⟩) hB hl2 (by omega) ⟨?_, s2⟩⟩
        rw [step, if_pos q, List.length_append, hl]
        rfl
      · refine LcP.skip hB hl2 ⟨?_, s2⟩
        rw [step, if_neg q, hl]
        rfl
    · rintro acc H2 ⟨hl, s2⟩ hB _
      rw [List.take_of_length_le (by omega), ← he, lets_filter hg] at hl
      refine ⟨_, acc.length, rfl, .inl ⟨_, SqL.of hB, rfl⟩, ?_⟩
      rw [hl]
      exact k _ (s1'.trans s2)

end
end Pf

namespace Pf
open PySem PySem.Spec PyProof.Rows L2 Bz
local macro_rules | `(tactic| walk_at "sd") => `(tactic| first
  | rfl | assumption | omega | exact Nat.le_of_ble_eq_true rfl | decide | (refine Or.inl (And.intro ?_ ?_) <;> omega) | (refine Or.inr (And.intro ?_ ?_) <;> omega) | (refine And.intro ?_ ?_ <;> omega) | (refine ⟨?_, ?_, ?_⟩ <;> omega))
local macro_rules | `(tactic| walk_at "sq") => `(tactic| first | assumption | exact SqL.of (by assumption) | exact SqT.of (by assumption) | exact SqL.of upd_same | exact SqT.of upd_same)
local macro_rules | `(tactic| walk_at "hp") => `(tactic| first | assumption | exact upd_same)
local macro_rules | `(tactic| walk_at "rd") => `(tactic| repeat (first
  | (refine ⟨_, rfl, ?_⟩) | (refine ⟨_, _, rfl, rfl, ?_⟩) | (refine ⟨rfl, ?_⟩) | (refine And.intro (by walk_at "sd") ?_)
  | (refine ⟨_, _, _, _, rfl, rfl, (by walk_at "sq"), rfl, ?_⟩)
  | (refine ⟨_, _, _, _, rfl, rfl, (by walk_at "hp"), rfl, ?_⟩)
  | (refine Or.inl ⟨_, rfl, ?_⟩)))
section
variable {P : Program} {w : World} {K : PySem.W.Frag} {mg : PySem.Str → Option Value} {base : Heap} {kl : Cl}
theorem ok_one_behind_the_other (T : FactsT K mg base kl) : KeepsF P w K mg base (L2.CX P w) 2 1 "one_behind_the_other" ["worths", "behind"] (spOneBehind K) := by
  refine keepsF T.d_one_behind_the_other sc_one_behind_the_other (fun vs fl H Q E h => ?_) (fun f cdv A outer s H vs fl Q E hr ha h => ?_)
  · obtain ⟨R, e0, L, fb, tl, ws, ps, rfl, _⟩ := h
    rfl
  · obtain ⟨R, e0, L, fb, tl, ws, ps, rfl, rfl, st, hb, hL, hW, pn, p1, hf, pl, k⟩ := h
    have hF_behind := ha (fb, tl) (List.mem_singleton.mpr rfl)
    refine ⟨_, (pss_cons (ps_set (i := 2) sc_one_behind_the_other.nd rfl (Or.inl rfl) (pe_ix (kix_list K) (pv 0) pe_int (fun _ _ => rfl)))
  (pss_cons (ps_for (passes_of rfl) rfl (kpi_list K (pe_slice (ksl_list K) (pv 0) (po_some pe_int) po_none)) (pg_name (i := 3) sc_one_behind_the_other.nd rfl (Or.inl rfl))
  (pss_one (ps_set (i := 2) sc_one_behind_the_other.nd rfl (Or.inl rfl) (pe_actv (i := 1) hF_behind hr (passes_call (takes_of rfl rfl rfl rfl) (fun _ _ _ _ h => h)) (pa_cons (pv 2) (pa_cons (pv 3) pa_nil))))))
  (pss_one (ps_ret (pv 2))))), ?_⟩
    have wl : ws.length = ps.length := Paired.length hW
    obtain ⟨w0, wr, rfl⟩ : ∃ w0 wr, ws = w0 :: wr := by
      cases ws with
      | nil =>
        have : ps.length = 0 := wl.symm
        exact absurd (List.length_eq_zero_iff.mp this) pn
      | cons a b => exact ⟨a, b, rfl⟩
    obtain ⟨p0, hp0, r0⟩ := pget hW (i := 0) rfl
    refine ⟨_, rfl, L, _, 0, _, rfl, rfl, hL, atI_nat (j := 0) rfl, ?_⟩
    refine ⟨_, rfl, _, rfl, L, _, rfl, hL, fun D hD => ?_⟩
    rw [cutV_1, List.drop_succ_cons, List.drop_zero]
    have sD : Same H (upd H D (.lst wr)) := same_new hD
    have kD := upd_same (H := H) (a := D) (o := .lst wr)
    generalize upd H D (.lst wr) = H1 at sD kD ⊢
    have wl1 : wr.length + 1 = ps.length := by simpa using wl
    refine ⟨D, rfl, ⟨_, SqL.of kD⟩, for_list (K := K) (a := D) (xs := wr) (fun i σ H' => ∃ (v : V) (v3 : Option V), σ = [some (.ref L), some (.ref fb), some v, v3] ∧ R H' v (Ex.comb (ps.take (i + 1))) ∧ Same H1 H') ⟨w0, _, rfl, ?_, .refl _⟩ (fun i σ H' _ ⟨_, _, _, _, s⟩ => SqL.of (s _ _ kD)) ?_ ?_⟩
    · rw [List.take_add_one, hp0]
      show R H1 w0 (Ex.comb [p0])
      rw [Ex.comb_one]
      exact st _ _ _ _ r0 (NL.same sD)
    · rintro i x σ H2 hx ⟨v, v3, rfl, hv, s2⟩
      obtain ⟨p, hp, rp⟩ := pget hW (i := i + 1) (a := x) (by rw [List.getElem?_cons_succ]; exact hx)
      have S2 := sD.trans s2
      have sng := p1 p (List.mem_of_getElem? hp)
      have e2 : Ex.comb (ps.take (i + 1 + 1)) = (Ex.comb (ps.take (i + 1))).app p := by
        rw [List.take_add_one, hp, Option.toList_some, Ex.comb_snoc]
      have n1 : Ex.comb (ps.take (i + 1)) ≠ .nil := Ex.comb_ne (fun q hq => p1 q (List.mem_of_mem_take hq)) (fun z => by
        have q : (ps.take (i + 1)).length = 0 := by rw [z]; rfl
        rw [List.length_take] at q
        omega)
      have n2 : p ≠ .nil := by cases sng <;> exact fun z => by cases z
      have hfc : Fac e0 ((Ex.comb (ps.take (i + 1))).app p) := by
        rw [← e2]
        have : Ex.comb ps = (Ex.comb (ps.take (i + 1 + 1))).app (Ex.comb (ps.drop (i + 1 + 1))) := by rw [← Ex.comb_app, List.take_append_drop]
        rw [this] at hf
        exact hf.fst
      refine ⟨rfl, _, rfl, _, rfl, Kc.same S2, hb H2 v x _ p _ _ S2 hv (st _ _ _ _ rp (NL.same S2)) n1 n2 hfc fun v' H' s' hv' => ?_⟩
      exact ⟨v', _, rfl, by rw [e2]; exact hv', s2.trans s'⟩
    · rintro σ H2 ⟨v, v3, rfl, hv, s2⟩
      rw [wl1, List.take_length] at hv
      exact ⟨_, rfl, k _ _ (sD.trans s2) hv⟩
/-- the worths that wait, innermost first: a list for each open bracket -/
inductive WaitR (R : Hp → V → Ex → Prop) (H0 H : Hp) : List V → List Fr → List Addr → Prop
  | nil : WaitR R H0 H [] [] []
  | cons {t L : Addr} {ws : List V} {us : List V} {f : Fr} {fs : List Fr} {as : List Addr} (ht : H t = some (.tup [.ref L, .int (f.at_ : Int)])) (hL : H L = some (.lst ws)) (hf : H0 L = none) (hw : WsR R H ws f.done) (hn : L ∉ as) (h : WaitR R H0 H us fs as) : WaitR R H0 H (.ref t :: us) (f :: fs) (L :: as)
theorem WaitR.length {R : Hp → V → Ex → Prop} {H0 H : Hp} {us : List V} {fs : List Fr} {as : List Addr} (h : WaitR R H0 H us fs as) : us.length = fs.length := by
  induction h with
  | nil => rfl
  | cons _ _ _ _ _ _ ih => rw [List.length_cons, List.length_cons, ih]
/-- it stays where lists that are none of its own change -/
theorem WaitR.keep {R : Hp → V → Ex → Prop} (st : Stab R) {H0 H H' : Hp} {us : List V} {fs : List Fr} {as : List Addr} (h : WaitR R H0 H us fs as) (n : NL H H') (k : ∀ a ∈ as, ∀ o, H a = some o → H' a = some o) : WaitR R H0 H' us fs as := by
  induction h with
  | nil => exact .nil
  | cons ht hL hf hw hn h ih => exact .cons (n _ _ ht (fun xs z => by cases z)) (k _ (List.mem_cons_self ..) _ hL) hf (hw.nl st n) hn (ih fun a ha => k a (List.mem_cons_of_mem _ ha))

end
end Pf

namespace Pf
open PySem PySem.Spec PyProof.Rows L2 Bz
local macro_rules | `(tactic| walk_at "sd") => `(tactic| first
  | rfl | assumption | omega | exact Nat.le_of_ble_eq_true rfl | decide | (refine Or.inl (And.intro ?_ ?_) <;> omega) | (refine Or.inr (And.intro ?_ ?_) <;> omega) | (refine And.intro ?_ ?_ <;> omega) | (refine ⟨?_, ?_, ?_⟩ <;> omega))
local macro_rules | `(tactic| walk_at "sq") => `(tactic| first | assumption | exact SqL.of (by assumption) | exact SqT.of (by assumption) | exact SqL.of upd_same | exact SqT.of upd_same)
local macro_rules | `(tactic| walk_at "hp") => `(tactic| first | assumption | exact upd_same)
local macro_rules | `(tactic| walk_at "rd") => `(tactic| repeat (first
  | (refine ⟨_, rfl, ?_⟩) | (refine ⟨_, _, rfl, rfl, ?_⟩) | (refine ⟨rfl, ?_⟩) | (refine And.intro (by walk_at "sd") ?_)
  | (refine ⟨_, _, _, _, rfl, rfl, (by walk_at "sq"), rfl, ?_⟩)
  | (refine ⟨_, _, _, _, rfl, rfl, (by walk_at "hp"), rfl, ?_⟩)
  | (refine Or.inl ⟨_, rfl, ?_⟩)))
section
variable {P : Program} {w : World} {K : PySem.W.Frag} {mg : PySem.Str → Option Value} {base : Heap} {kl : Cl}
theorem ok_put_together (T : FactsT K mg base kl) : KeepsF P w K mg base (L2.CX P w) 3 1 "put_together" ["text", "of_letter", "behind", "starred"] (spPutT K) := by
  refine keepsF T.d_put_together sc_put_together (fun vs fl H Q E h => ?_) (fun f cdv A outer s H vs fl Q E hr ha h => ?_)
  · obtain ⟨R, bad, Er, z, e, f1, f2, f3, t1, t2, t3, rfl, _⟩ := h
    rfl
  · obtain ⟨R, bad, Er, z, e, f1, f2, f3, t1, t2, t3, rfl, rfl, st, he, hg, hn, hz, hl, hb, hs, k, kE⟩ := h
    have hF_of_letter := ha (f1, t1) (by simp)
    have hF_behind := ha (f2, t2) (by simp)
    have hF_starred := ha (f3, t3) (by simp)
    refine ⟨_, (pss_cons (ps_set (i := 4) sc_put_together.nd rfl (Or.inl rfl) (pe_lst pa_nil))
  (pss_cons (ps_set (i := 5) sc_put_together.nd rfl (Or.inl rfl) (pe_lst pa_nil))
  (pss_cons (ps_for (passes_of rfl) rfl (pi_enumT (by rfl) T.b_enumerate (pa_cons (pv 0) pa_nil)) (kpg_tup K rfl (pgs_cons (pg_name (i := 6) sc_put_together.nd rfl (Or.inl rfl)) (pgs_cons (pg_name (i := 7) sc_put_together.nd rfl (Or.inl rfl)) pgs_nil)))
  (pss_one (ps_if (pt_cmpR op_eq (pv 7) pe_str (nomark _))
  (pss_cons (ps_expr (kbm K PySem.F.plainAttrs_list PySem.F.slot_list_append PySem.F.type_list_append mt_append (pv 4) (pa_cons (pe_tup (pa_cons (pv 5) (pa_cons (pv 6) pa_nil))) pa_nil)))
  (pss_one (ps_set (i := 5) sc_put_together.nd rfl (Or.inl rfl) (pe_lst pa_nil))))
  (pss_one (ps_if (pt_cmpR op_eq (pv 7) pe_str (nomark _))
  (pss_cons (ps_set (i := 8) sc_put_together.nd rfl (Or.inl rfl) (pe_fcall (ok_one_behind_the_other T) hr (passes_call (takes_of rfl rfl rfl rfl) (fun _ _ _ _ h => h)) (paf_val (pv 5) (paf_fun (pf_var (i := 2) hF_behind) paf_nil))))
  (pss_cons (ps_asg (kbm0 K PySem.F.plainAttrs_list PySem.F.slot_list_pop PySem.F.type_list_pop mt_pop (pv 4)) (kpg_tup K rfl (pgs_cons (pg_name (i := 5) sc_put_together.nd rfl (Or.inl rfl)) (pgs_cons (pg_name (i := 9) sc_put_together.nd rfl (Or.inl rfl)) pgs_nil))))
  (pss_one (ps_expr (kbm K PySem.F.plainAttrs_list PySem.F.slot_list_append PySem.F.type_list_append mt_append (pv 5) (pa_cons (pe_actv (i := 3) hF_starred hr (passes_call (takes_of rfl rfl rfl rfl) (fun _ _ _ _ h => h)) (pa_cons (pv 8) (pa_cons (pe_op op_add_str (pe_slice sl_str (pv 0) (po_some (pv 9)) (po_some (pv 6))) (pe_cstS T.c_SIGNS_OF_A_STAR)) pa_nil))) pa_nil))))))
  (pss_one (ps_if (pt_cmpR op_ne (pv 7) pe_str (nomark _))
  (pss_one (ps_expr (kbm K PySem.F.plainAttrs_list PySem.F.slot_list_append PySem.F.type_list_append mt_append (pv 5) (pa_cons (pe_actv (i := 1) hF_of_letter hr (passes_call (takes_of rfl rfl rfl rfl) (fun _ _ _ _ h => h)) (pa_cons (pv 7) pa_nil)) pa_nil))))
  pss_nil)))))))
  (pss_one (ps_ret (pe_fcall (ok_one_behind_the_other T) hr (passes_call (takes_of rfl rfl rfl rfl) (fun _ _ _ _ h => h)) (paf_val (pv 5) (paf_fun (pf_var (i := 2) hF_behind) paf_nil)))))))), ?_⟩
    have zl : (TL.tl z).length = z.cps.size := by rw [← len_tl]; rfl
    refine ⟨Nat.zero_le _, fun Wa hWa => ?_⟩
    have s1' := same_new (o := .lst []) hWa
    have kW := upd_same (H := H) (a := Wa) (o := .lst [])
    generalize upd H Wa (.lst []) = H1 at s1' kW ⊢
    refine ⟨Nat.zero_le _, fun L hL => ?_⟩
    have s2' := same_new (o := .lst []) hL
    have kL := upd_same (H := H1) (a := L) (o := .lst [])
    have nWL : Wa ≠ L := ne_of_none kW hL
    have kW2 := s2' _ _ kW
    generalize upd H1 L (.lst []) = H2 at s2' kL kW2 ⊢
    have S2 := s1'.trans s2'
    have fL := s1'.free hL
    refine ⟨_, rfl, z, rfl, for_it walk_enumT (fun i σ H' => ∃ (L : Addr) (v6 v7 v8 v9 : Option V) (fs : List Fr) (d : List Ex) (t : Ex) (us ws : List V) (as : List Addr), σ = [some (.str z), some (.ref f1), some (.ref f2), some (.ref f3), some (.ref Wa), some (.ref L), v6, v7, v8, v9] ∧ Zp.Ok (TL.tl z) e bad fs d t ∧
      H' Wa = some (.lst us.reverse) ∧ H' L = some (.lst ws) ∧ H L = none ∧ L ≠ Wa ∧ L ∉ as ∧ Wa ∉ as ∧ WaitR R H H' us fs as ∧ WsR R H' ws d ∧
      ((d ≠ [] ∧ i + 1 = (Zp.before fs d).length ∧ (TL.tl z)[i]? = some 42) ∨ i = (Zp.before fs d).length) ∧ Same H H') ⟨L, _, _, _, _, [], [], e, [], [], [], rfl, Zp.start he hg, kW2, kL, fL, nWL.symm, List.not_mem_nil, List.not_mem_nil, .nil, .nil, .inr rfl, S2⟩ (fun _ _ _ _ _ => trivial) ?_ ?_⟩
    · rintro i x σ H4 H5 hi ⟨L, v6, v7, v8, v9, fs, d, t, us, ws, as, rfl, hO, hW, hLc, fL, nL, nLa, nWa, hWt, hWs, hS, s4⟩ ⟨qe, c, rfl, hqe, rfl, hc⟩
      have s5 : Same H4 (upd H4 qe (.tup [.int (i : Int), .str ⟨#[c]⟩])) := same_new hqe
      have k5 := upd_same (H := H4) (a := qe) (o := .tup [.int (i : Int), .str ⟨#[c]⟩])
      generalize upd H4 qe (.tup [.int (i : Int), .str ⟨#[c]⟩]) = H5 at s5 k5 ⊢
      have S5 := s4.trans s5
      have hcT : (TL.tl z)[i]? = some c := by
        rw [← hc]
        show z.cps.toList[i]? = z.cps[i]?
        simp
      have hW5 := s5 _ _ hW
      have hL5 := s5 _ _ hLc
      have W5 : WaitR R H H5 us fs as := hWt.keep st (NL.same s5) fun a _ o => s5 a o
      have R5 : WsR R H5 ws d := hWs.nl st (NL.same s5)
      have wl : ws.length = d.length := Paired.length R5
      have dl := hO.dlen
      have fW : H Wa = none := hWa
      refine ⟨qe, _, rfl, SqT.of k5, rfl, _, _, rfl, _, _, rfl, rfl, ?_⟩
      have e40 : decide (V.str (⟨#[c]⟩ : PySem.Str) = V.str "(") = decide (c = 40) := deq c 40 sOp
      have e41 : decide (V.str (⟨#[c]⟩ : PySem.Str) = V.str ")") = decide (c = 41) := deq c 41 sCl
      have e42 : decide (V.str (⟨#[c]⟩ : PySem.Str) = V.str "*") = decide (c = 42) := deq c 42 sSt
      rcases hS with ⟨hd, hl', h42⟩ | hl'
      · -- the star behind a bracket
        rw [h42] at hcT
        obtain rfl := Option.some.inj hcT
        refine ⟨_, rfl, rfl, _, rfl, ?_⟩
        rw [e40]
        refine iteF ⟨_, rfl, rfl, _, rfl, ?_⟩
        rw [e41]
        refine iteF ⟨_, rfl, rfl, _, rfl, ?_⟩
        rw [e42]
        refine iteF ?_
        exact ⟨L, _, _, _, _, fs, d, t, us, ws, as, rfl, hO, hW5, hL5, fL, nL, nLa, nWa, W5, R5, .inr hl', S5⟩
      · have lt : (Zp.before fs d).length < (TL.tl z).length := by rw [← hl', zl]; exact hi
        rcases hO.more lt with ⟨y, r, rfl⟩ | ⟨y, r, rfl⟩ | ⟨rfl, f', gs, rfl⟩
        · -- a letter
          have hfac : Fac e (.ltr y .nil) := by
            have := hO.fac
            rw [show Ex.ltr y r = (Ex.ltr y .nil).app r from rfl] at this
            exact .cut this
          obtain ⟨o1, o2, o3, o4⟩ := hO.letter
          rw [← hl', hcT] at o2
          obtain rfl := Option.some.inj o2
          refine ⟨_, rfl, rfl, _, rfl, ?_⟩
          rw [e40, decide_eq_false (show ¬ c = 40 by omega)]
          refine iteF ⟨_, rfl, rfl, _, rfl, ?_⟩
          rw [e41, decide_eq_false (show ¬ c = 41 by omega)]
          refine iteF ⟨_, rfl, rfl, _, rfl, ?_⟩
          rw [e42, decide_eq_false (show ¬ c = 42 by omega)]
          refine iteT ?_
          refine ⟨_, rfl, .inl ⟨rfl, _, SqL.of hL5⟩, rfl, _, rfl, Kc.same S5, hl H5 c _ _ S5 o3 hfac fun v H6 s6 rv => ?_⟩
          have hL6 := s6 _ _ hL5
          refine ⟨L, _, _, rfl, rfl, hL6, by rw [wl]; exact Nat.lt_of_le_of_lt (show d.length ≤ 100000 by rw [zl] at dl; exact Nat.le_trans dl hz) (by decide), ?_⟩
          have nl7 := NL.put (o := .lst (ws ++ [v])) hL6
          refine ⟨L, _, _, _, _, fs, _, r, us, ws ++ [v], as, rfl, o1, (upd_ne nL.symm).trans (s6 _ _ hW5), upd_same, fL, nL, nLa, nWa, W5.keep st ((NL.same s6).trans nl7) fun a ha' o q => ?_, paired_snoc (R5.nl st ((NL.same s6).trans nl7)) (st _ _ _ _ rv nl7), .inr (by rw [o4, hl']), same_mut (S5.trans s6) fL⟩
          rw [upd_ne (fun q2 => nLa (by rw [← q2]; exact ha'))]
          exact s6 _ _ q
        · -- a bracket opens
          obtain ⟨o1, o2, o3⟩ := hO.open
          rw [← hl', hcT] at o2
          obtain rfl := Option.some.inj o2
          refine ⟨_, rfl, rfl, _, rfl, ?_⟩
          rw [e40]
          refine iteT ?_
          refine ⟨_, rfl, .inl ⟨rfl, _, SqL.of hW5⟩, _, rfl, _, rfl, Nat.le_of_ble_eq_true rfl, fun tq htq => ?_⟩
          have s6 : Same H5 (upd H5 tq (.tup [.ref L, .int (i : Int)])) := same_new htq
          have k6 := upd_same (H := H5) (a := tq) (o := .tup [.ref L, .int (i : Int)])
          generalize upd H5 tq (.tup [.ref L, .int (i : Int)]) = H6 at s6 k6 ⊢
          have hW6 := s6 _ _ hW5
          have hL6 := s6 _ _ hL5
          have ul : us.length = fs.length := W5.length
          refine ⟨Wa, _, _, rfl, rfl, hW6, ?_, ?_⟩
          · rw [List.length_reverse, ul]
            have := before_fs fs d
            exact Nat.lt_of_le_of_lt (show fs.length ≤ 100000 by have : z.cps.size ≤ 100000 := hz; omega) (by decide)
          have k7 := upd_same (H := H6) (a := Wa) (o := .lst (us.reverse ++ [.ref tq]))
          have nl7 : NL H6 (upd H6 Wa (.lst (us.reverse ++ [.ref tq]))) := NL.put hW6
          have ne7 : ∀ b, b ≠ Wa → (upd H6 Wa (.lst (us.reverse ++ [.ref tq]))) b = H6 b := fun b hb => upd_ne hb
          have sm7 : Same H (upd H6 Wa (.lst (us.reverse ++ [.ref tq]))) := same_mut (S5.trans s6) fW
          generalize upd H6 Wa (.lst (us.reverse ++ [.ref tq])) = H7 at k7 nl7 ne7 sm7 ⊢
          refine ⟨Nat.zero_le _, fun L2 hL2 => ?_⟩
          have s8 : Same H7 (upd H7 L2 (.lst [])) := same_new hL2
          have k8 := upd_same (H := H7) (a := L2) (o := .lst [])
          have hL7 : H7 L = some (.lst ws) := (ne7 L nL).trans hL6
          have nas : ∀ a ∈ as, ∀ o, H5 a = some o → H7 a = some o := fun a ha' o q => by
            rw [ne7 a (fun z2 => nWa (by rw [← z2]; exact ha'))]
            exact s6 _ _ q
          have W8 : WaitR R H (upd H7 L2 (.lst [])) us fs as := W5.keep st (((NL.same s6).trans nl7).trans (NL.same s8)) fun a ha' o q => s8 _ _ (nas a ha' o q)
          have R8 : WsR R (upd H7 L2 (.lst [])) ws d := R5.nl st (((NL.same s6).trans nl7).trans (NL.same s8))
          have n2a : ∀ a ∈ as, L2 ≠ a := fun a ha' z2 => by
            have key : ∀ {us : List V} {fs : List Fr} {as : List Addr}, WaitR R H H5 us fs as → ∀ a ∈ as, ∃ o, H5 a = some o := fun {us fs as} h => by
              induction h with
              | nil => intro a h; cases h
              | cons ht hL hf hw hn h ih =>
                intro a ha
                rcases List.mem_cons.mp ha with e | ha
                · rw [e]
                  exact ⟨_, hL⟩
                · exact ih a ha
            obtain ⟨o, q⟩ := key W5 a ha'
            rw [z2, nas a ha' o q] at hL2
            cases hL2
          have n2L : L2 ≠ L := fun z2 => by
            rw [z2, hL7] at hL2
            cases hL2
          have n2W : L2 ≠ Wa := fun z2 => by
            rw [z2, k7] at hL2
            cases hL2
          refine ⟨L2, _, _, _, _, _, [], y, .ref tq :: us, [], L :: as, rfl, o1, by rw [List.reverse_cons]; exact s8 _ _ k7, k8, sm7.free hL2, n2W, fun q => (List.mem_cons.mp q).elim n2L fun q => n2a _ q rfl, fun q => (List.mem_cons.mp q).elim nL.symm nWa, .cons ?_ (s8 _ _ hL7) fL R8 nLa W8, .nil, .inr (by rw [o3, hl']), sm7.trans s8⟩
          have q7 : H7 tq = some (.tup [.ref L, .int (i : Int)]) := nl7 _ _ k6 (fun xs z => by cases z)
          rw [hl'] at q7
          exact s8 _ _ q7
        · -- a bracket closes
          have hfac := hO.fac
          obtain ⟨o1, o2, o3, o4, o5, o6, o7, o8⟩ := hO.close
          have onev := hO.one
          have hfs : Fac e (.star (Ex.comb d) .nil) := by
            have h0 := hO.all
            rw [Ex.app_nil] at h0
            have h1 := fac_whole gs ((Ex.comb f'.done).app (.star (Ex.comb d) f'.todo))
            rw [show Zp.whole gs ((Ex.comb f'.done).app (.star (Ex.comb d) f'.todo)) = e from h0, show Ex.star (Ex.comb d) f'.todo = (Ex.star (Ex.comb d) .nil).app f'.todo from rfl] at h1
            exact .cut h1
          have hat := hO.at_ f' gs (List.suffix_refl _)
          rw [← hl', hcT] at o1
          obtain rfl := Option.some.inj o1
          rw [← hl'] at o2 o5
          refine ⟨_, rfl, rfl, _, rfl, ?_⟩
          rw [e40]
          refine iteF ⟨_, rfl, rfl, _, rfl, ?_⟩
          rw [e41]
          refine iteT ?_
          rw [Ex.app_nil] at hfac
          refine ⟨_, rfl, rfl, Kc.refl _, Kc.same S5, R, e, L, f2, t2, ws, d, rfl, rfl, st, hb.later S5, SqL.of hL5, R5, o3, onev, hfac, ?_, fun v H6 s6 rv => ?_⟩
          · rw [zl] at dl
            exact Nat.le_trans dl hz
          cases W5 with
          | @cons t' L' ws' us' _ _ as' ht hL' hf' hw' hn' hW' =>
            have hW6 := s6 _ _ hW5
            have nLW' : L' ≠ Wa := fun q => nWa (by rw [← q]; exact List.mem_cons_self ..)
            have nWa' : Wa ∉ as' := fun q => nWa (List.mem_cons_of_mem _ q)
            have last : ((V.ref t' :: us').reverse)[(V.ref t' :: us').reverse.length - 1]? = some (V.ref t') := by
              rw [List.reverse_cons, List.length_append, List.length_singleton, Nat.add_sub_cancel, List.getElem?_append_right (Nat.le_refl _), Nat.sub_self]
              rfl
            refine ⟨_, rfl, .inl ⟨rfl, _, SqL.of hW6⟩, Wa, _, _, rfl, rfl, hW6, last, ?_⟩
            have nl7 : NL H6 (upd H6 Wa (.lst (V.ref t' :: us').reverse.dropLast)) := NL.put hW6
            have ne7 : ∀ b, b ≠ Wa → (upd H6 Wa (.lst (V.ref t' :: us').reverse.dropLast)) b = H6 b := fun b hb => upd_ne hb
            have k7 : (upd H6 Wa (.lst (V.ref t' :: us').reverse.dropLast)) Wa = some (.lst us'.reverse) := by
              rw [upd_same, List.reverse_cons, List.dropLast_concat]
            have sm7 : Same H (upd H6 Wa (.lst (V.ref t' :: us').reverse.dropLast)) := same_mut (S5.trans s6) fW
            generalize upd H6 Wa (.lst (V.ref t' :: us').reverse.dropLast) = H7 at k7 nl7 ne7 sm7 ⊢
            have ht7 : H7 t' = some (.tup [.ref L', .int (f'.at_ : Int)]) := nl7 _ _ (s6 _ _ ht) (fun xs z => by cases z)
            have hL7 : H7 L' = some (.lst ws') := (ne7 L' nLW').trans (s6 _ _ hL')
            refine ⟨t', _, rfl, SqT.of ht7, rfl, _, _, rfl, _, _, rfl, rfl, ?_⟩
            have hle : f'.at_ ≤ i := by
              rw [hat, hl']
              show _ ≤ (Zp.before gs f'.done ++ 40 :: (Ex.comb d).text).length
              rw [List.length_append]
              omega
            have ptxt : TL.tl (cutS z (some (f'.at_ : Int)) (some (i : Int)) ++ ")*") = (Ex.star (Ex.comb d) .nil).text := by
              rw [TL.tl_append, tl_cutE z hle, o5, show TL.tl (")*" : PySem.Str) = [41, 42] from by decide +kernel]
              rfl
            have clen : (cutS z (some (f'.at_ : Int)) (some (i : Int))).length ≤ 100000 := by
              rw [len_tl, tl_cutE z hle, List.length_take, List.length_drop, zl]
              have : z.cps.size ≤ 100000 := hz
              omega
            have zsz : z.length ≤ sizeLine := Nat.le_trans hz (by decide)
            have csz : (cutS z (some (f'.at_ : Int)) (some (i : Int))).length + (")*" : PySem.Str).length ≤ sizeLine := by
              rw [show (")*" : PySem.Str).length = 2 from by decide +kernel]
              exact Nat.le_trans (show _ ≤ 200000 by omega) (by decide)
            refine ⟨_, rfl, .inl ⟨rfl, _, SqL.of hL7⟩, rfl, _, rfl, _, rfl, _, rfl, _, rfl, _, rfl, _, rfl, z, rfl, zsz, _, _, rfl, rfl, csz, Kc.same sm7, hs H7 v (Ex.comb d) _ _ _ sm7 (st _ _ _ _ rv nl7) o4 hO.gd hfs ptxt (fun hb0 v' H8 s8 rv8 => ?_) (fun hb1 => kE _ (o6 hb1) H7 sm7)⟩
            have hO7 := o7 hb0
            have hL8 := s8 _ _ hL7
            have wl' : ws'.length = f'.done.length := Paired.length hw'
            have dl7 := hO7.dlen
            rw [List.length_append, List.length_singleton, zl] at dl7
            have hz' : z.cps.size ≤ 100000 := hz
            refine ⟨L', _, _, rfl, rfl, hL8, by rw [wl']; exact Nat.lt_of_le_of_lt (show f'.done.length ≤ 100000 by omega) (by decide), ?_⟩
            have nl9 := NL.put (o := .lst (ws' ++ [v'])) hL8
            have nl59 := (((NL.same s6).trans nl7).trans (NL.same s8)).trans nl9
            refine ⟨L', _, _, _, _, gs, _, f'.todo, us', ws' ++ [v'], as', rfl, hO7, (upd_ne nLW'.symm).trans (s8 _ _ k7), upd_same, hf', nLW', hn', nWa', hW'.keep st nl59 fun a ha' o q => ?_, paired_snoc (WsR.nl st hw' nl59) (st _ _ _ _ rv8 nl9), .inl ⟨by simp, by rw [o8, hl'], o2⟩, same_mut (sm7.trans s8) hf'⟩
            rw [upd_ne (fun q2 => hn' (by rw [← q2]; exact ha'))]
            refine s8 _ _ ?_
            rw [ne7 a (fun q2 => nWa' (by rw [← q2]; exact ha'))]
            exact s6 _ _ q
    · rintro σ H4 ⟨L, v6, v7, v8, v9, fs, d, t, us, ws, as, rfl, hO, hW, hLc, fL, nL, nLa, nWa, hWt, hWs, hS, s4⟩
      have hend : fs = [] ∧ t = .nil := by
        rcases hS with ⟨hd, hl, h42⟩ | hl
        · have := (List.getElem?_eq_some_iff.mp h42).1
          omega
        · exact hO.over (by rw [← hl, zl])
      obtain ⟨rfl, rfl⟩ := hend
      obtain ⟨_, hce, hfb⟩ := hO.end
      have dn : d ≠ [] := fun q => hn (by rw [← hce, q]; rfl)
      have dl := hO.dlen
      rw [zl] at dl
      exact ⟨_, rfl, rfl, Kc.refl _, Kc.same s4, R, e, L, f2, t2, ws, d, rfl, rfl, st, hb.later s4, SqL.of hLc, hWs, dn, hO.one, by rw [hce]; exact .self, Nat.le_trans dl hz, fun v H' s r => k hfb v H' (s4.trans s) (by rw [hce] at r; exact r)⟩

end
end Pf

namespace Pf
open PySem PySem.Spec PyProof.Rows L2 Bz
local macro_rules | `(tactic| walk_at "sd") => `(tactic| first
  | rfl | assumption | omega | exact Nat.le_of_ble_eq_true rfl | decide | (refine Or.inl (And.intro ?_ ?_) <;> omega) | (refine Or.inr (And.intro ?_ ?_) <;> omega) | (refine And.intro ?_ ?_ <;> omega) | (refine ⟨?_, ?_, ?_⟩ <;> omega))
local macro_rules | `(tactic| walk_at "sq") => `(tactic| first | assumption | exact SqL.of (by assumption) | exact SqT.of (by assumption) | exact SqL.of upd_same | exact SqT.of upd_same)
local macro_rules | `(tactic| walk_at "hp") => `(tactic| first | assumption | exact upd_same)
local macro_rules | `(tactic| walk_at "rd") => `(tactic| repeat (first
  | (refine ⟨_, rfl, ?_⟩) | (refine ⟨_, _, rfl, rfl, ?_⟩) | (refine ⟨rfl, ?_⟩) | (refine And.intro (by walk_at "sd") ?_)
  | (refine ⟨_, _, _, _, rfl, rfl, (by walk_at "sq"), rfl, ?_⟩)
  | (refine ⟨_, _, _, _, rfl, rfl, (by walk_at "hp"), rfl, ?_⟩)
  | (refine Or.inl ⟨_, rfl, ?_⟩)))
section
variable {P : Program} {w : World} {K : PySem.W.Frag} {mg : PySem.Str → Option Value} {base : Heap} {kl : Cl}
theorem ok_is_integer (T : FactsT K mg base kl) : Keeps P w K mg base CX0 1 "is_integer" ["value"] (spIsInt K) := by
  refine keeps0 T.d_is_integer sc_is_integer (fun vs H Q E h => ?_) (fun f cdv A outer s H vs Q E hr h => ?_)
  · obtain ⟨v, t, rfl, _⟩ := h
    rfl
  · obtain ⟨v, t, rfl, ty, ht, k⟩ := h
    refine ⟨_, (pss_one (ps_ret (pe_and (pe_callB (kisi K) (by rfl) T.b_isinstance (by decide +kernel) (pa_cons (pv 0) (pa_cons (pe_bltn (v := .ty "int") (by rfl) T.b_int (by decide +kernel) rfl) pa_nil))) (pe_one (pe_not (pe_callB (kisi K) (by rfl) T.b_isinstance (by decide +kernel) (pa_cons (pv 0) (pa_cons (pe_bltn (v := .ty "bool") (by rfl) T.b_bool (by decide +kernel) rfl) pa_nil)))))))), ?_⟩
    obtain ⟨k1, k2, _⟩ := kit_in (K := K) ht
    refine ⟨_, rfl, _, _, _, _, _, rfl, .ty "int", ty, k1, _, rfl, ite2 (fun hc => ?_) (fun hc => ?_)⟩
    · refine ⟨_, rfl, _, _, _, _, _, rfl, .ty "bool", ty, k2, _, rfl, ?_⟩
      have e : (!decide (t = "bool")) = decide (t = "int") := by
        simp only [Bool.or_eq_true, decide_eq_true_eq] at hc
        rcases hc with rfl | rfl <;> decide
      rw [e]
      exact k
    · have e : decide (t = "int") = false := by
        simp only [Bool.or_eq_true, decide_eq_true_eq, not_or] at hc
        exact decide_eq_false hc.1
      rw [e] at k
      exact k

end
end Pf

namespace Pf
open PySem PySem.Spec PyProof.Rows L2 Bz
local macro_rules | `(tactic| walk_at "sd") => `(tactic| first
  | rfl | assumption | omega | exact Nat.le_of_ble_eq_true rfl | decide | (refine Or.inl (And.intro ?_ ?_) <;> omega) | (refine Or.inr (And.intro ?_ ?_) <;> omega) | (refine And.intro ?_ ?_ <;> omega) | (refine ⟨?_, ?_, ?_⟩ <;> omega))
local macro_rules | `(tactic| walk_at "sq") => `(tactic| first | assumption | exact SqL.of (by assumption) | exact SqT.of (by assumption) | exact SqL.of upd_same | exact SqT.of upd_same)
local macro_rules | `(tactic| walk_at "hp") => `(tactic| first | assumption | exact upd_same)
local macro_rules | `(tactic| walk_at "rd") => `(tactic| repeat (first
  | (refine ⟨_, rfl, ?_⟩) | (refine ⟨_, _, rfl, rfl, ?_⟩) | (refine ⟨rfl, ?_⟩) | (refine And.intro (by walk_at "sd") ?_)
  | (refine ⟨_, _, _, _, rfl, rfl, (by walk_at "sq"), rfl, ?_⟩)
  | (refine ⟨_, _, _, _, rfl, rfl, (by walk_at "hp"), rfl, ?_⟩)
  | (refine Or.inl ⟨_, rfl, ?_⟩)))
section
variable {P : Program} {w : World} {K : PySem.W.Frag} {mg : PySem.Str → Option Value} {base : Heap} {kl : Cl}
theorem fac_row {n : Nat} (hn : 1 ≤ n) {e x : Ex} (h : Fac e x) : (x.row n).length ≤ (e.row n).length := by
  induction h with
  | self => exact Nat.le_refl _
  | @cut a b c h ih =>
    rw [Ex.row_app, Ex.row_app, List.length_append, List.length_append] at ih
    omega
  | @inn x h ih =>
    have e1 : ((Ex.star x .nil).row n).length = n * (x.row n).length := by
      show (Ex.rep n (x.row n) ++ []).length = _
      rw [List.append_nil]
      unfold Ex.rep
      rw [List.length_flatten, List.map_replicate, List.sum_replicate_nat]
    rw [e1] at ih
    have := Nat.le_mul_of_pos_left (x.row n).length (show 0 < n by omega)
    omega
def RowR (n : Nat) : Hp → V → Ex → Prop := fun _ v x => ∃ y : PySem.Str, v = .str y ∧ TL.tl y = x.row n
theorem rowR_stab (n : Nat) : Stab (RowR n) := fun _ _ _ _ h _ => h
def spRowOf (kl : Cl) : Sp := fun vs H Q _ => ∃ (z : PySem.Str) (e : Ex) (n : Nat), vs = [.str z, .int (n : Int)] ∧ 1 ≤ n ∧ n ≤ 1000 ∧ e.text = TL.tl z ∧ e.Good ∧ e ≠ .nil ∧ z.length ≤ 100000 ∧ (e.row n).length ≤ 1000000 ∧ LamX.Tabs (tabsOf kl) H ∧
  ∀ (y : PySem.Str) H', LamX.ExtN H H' → LamX.Tabs (tabsOf kl) H' → TL.tl y = e.row n → Q (.str y) H'
theorem ok_row_of (T : FactsT K mg base kl) : Keeps P w K mg base CX0 6 "row_of" ["text", "n"] (spRowOf kl) := by
  refine keeps0L T.l_row_of sc_row_of (fun vs H Q E h => ?_) (fun f A outer s H vs Q E hr h => ?_)
  · obtain ⟨z, e, n, rfl, _⟩ := h
    rfl
  · obtain ⟨z, e, n, rfl, n1, n1000, he, hg, hn, hz, hrl, hT, k⟩ := h
    refine ⟨_, (pss_cons (ps_expr (pe_own (ok_check_expression T) hr (pa_cons (pv 0) pa_nil)))
  (pss_cons (ps_if (PW.pt (pw_or (pt_not (pt_val (pe_own (ok_is_integer T) hr (pa_cons (pv 1) pa_nil)))) (pw_or1 (pt_cmpR op_lt (pv 1) pe_int (nomark _)))))
  (pss_one ps_never)
  pss_nil)
  (pss_one (ps_ret (pe_fcall (ok_put_together T) hr passL (paf_val (pv 0) (paf_fun (pf_lam (T := tabsOf kl) (ps := ["letter"]) (cs := []) (cap := []) T.tb_row_of rfl (List.Mem.head _) (fun _ hp _ => (congrArg Prod.snd (List.mem_singleton.mp hp)).trans rfl) (lamP_by (sc := defScope s_row_of) (by decide +kernel)) rfl (fun _ _ _ _ _ us hl => match us, hl with | [_], _ => rfl) (cap_by (N := N_row_of) (by decide +kernel)) (by decide) (fun A outer s1 HZ E f c' hr => (pv 0))) (paf_fun (pf_lam (T := tabsOf kl) (ps := ["row", "other"]) (cs := []) (cap := []) T.tb_row_of rfl (List.Mem.head _) (fun _ hp _ => (congrArg Prod.snd (List.mem_singleton.mp hp)).trans rfl) (lamP_by (sc := defScope s_row_of) (by decide +kernel)) rfl (fun _ _ _ _ _ us hl => match us, hl with | [_, _], _ => rfl) (cap_by (N := N_row_of) (by decide +kernel)) (by decide) (fun A outer s1 HZ E f c' hr => (pe_op op_add_str (pv 0) (pv 1)))) (paf_fun (pf_lam (T := tabsOf kl) (ps := ["inner", "part"]) (cs := ["n"]) (cap := [1]) T.tb_row_of rfl (List.Mem.head _) (fun _ hp _ => (congrArg Prod.snd (List.mem_singleton.mp hp)).trans rfl) (lamP_by (sc := defScope s_row_of) (by decide +kernel)) rfl (fun _ _ _ _ _ us hl => match us, hl with | [_, _], _ => rfl) (cap_by (N := N_row_of) (by decide +kernel)) (by decide) (fun A outer s1 HZ E f c' hr => (pe_op op_repTxt (pv 0) (pv 2)))) paf_nil))))))))), ?_⟩
    refine ⟨_, rfl, z, e, rfl, he, hg, hn, hz, fun H1 s1' => ?_⟩
    have T1 := hT.ext s1'
    have nI : ¬ ((n : Int) < 1) := by omega
    refine ⟨_, rfl, .int (n : Int), "int", rfl, .base (.int _), by simp, ?_⟩
    refine ⟨_, rfl, iteF ⟨_, rfl, _, _, rfl, rfl, _, rfl, ?_⟩⟩
    rw [decide_eq_false nI]
    refine iteF ?_
    refine ⟨_, rfl, T1, [], rfl, fun j i hj => (by cases hj), fun g1 H2 e2 T2 => ⟨T2, [], rfl, fun j i hj => (by cases hj), fun g2 H3 e3 T3 => ⟨T3, [.int (n : Int)], rfl, ?_, fun g3 H4 e4 T4 => ?_⟩⟩⟩
    · intro j i hj
      match j, hj with
      | 0, hj =>
        obtain rfl := Option.some.inj hj
        exact ⟨_, rfl, rfl⟩
    have e14 : LamX.ExtN H1 H4 := (e2.trans e3).trans e4
    refine ⟨Kc.extN e4 |> fun _ => Kc.refl _, Kc.extN e4, Kc.extN (e3.trans e4), (Kc.same s1').trans (Kc.extN e14), ?_⟩
    refine ⟨RowR n, fun _ => false, fun _ _ _ => False, z, e, g1, g2, g3, _, _, _, rfl, rfl, rowR_stab n, he, hg, hn, hz, fun H c Q E s hc hf kk => ⟨rfl, _, rfl, kk _ H (.refl H) ⟨_, rfl, rfl⟩⟩, ?_, ?_, fun _ v H' s r => ?_, fun x hx => by rw [Ex.fb_none] at hx; cases hx⟩
    · rintro H v1 v2 e1 e2 Q E s ⟨y1, rfl, h1⟩ ⟨y2, rfl, h2⟩ _ _ hf kk
      have b := fac_row n1 hf
      rw [Ex.row_app, List.length_append] at b
      refine ⟨rfl, _, rfl, _, rfl, y1, y2, rfl, rfl, ?_, kk _ H (.refl H) ⟨_, rfl, by rw [TL.tl_append, h1, h2, Ex.row_app]⟩⟩
      rw [len_tl, len_tl, h1, h2]
      exact Nat.le_trans (show _ ≤ 1000000 by omega) (by decide)
    · rintro H v x part Q E s ⟨y, rfl, hy⟩ xn xg hf hp kg kb
      have b := fac_row n1 hf
      have e1 : ((Ex.star x .nil).row n).length = n * (x.row n).length := by
        show (Ex.rep n (x.row n) ++ []).length = _
        rw [List.append_nil]
        unfold Ex.rep
        rw [List.length_flatten, List.map_replicate, List.sum_replicate_nat]
      rw [e1] at b
      refine ⟨rfl, _, rfl, _, rfl, y, (n : Int), rfl, rfl, by omega, by omega, ?_, kg rfl _ H (.refl H) ⟨_, rfl, ?_⟩⟩
      · rw [len_tl, hy, Int.toNat_natCast, Nat.mul_comm]
        exact Nat.le_trans (show _ ≤ 1000000 by omega) (by decide)
      · rw [repS_tl, hy, Int.toNat_natCast]
        show Ex.rep n (x.row n) = Ex.rep n (x.row n) ++ []
        rw [List.append_nil]
    · obtain ⟨y, rfl, hy⟩ := r
      exact k y H' ((extN_same s1').trans (e14.trans (extN_same s))) (T4.ext s) hy

end
end Pf

namespace Pf
open PySem PySem.Spec PyProof.Rows L2 Bz
local macro_rules | `(tactic| walk_at "sd") => `(tactic| first
  | rfl | assumption | omega | exact Nat.le_of_ble_eq_true rfl | decide | (refine Or.inl (And.intro ?_ ?_) <;> omega) | (refine Or.inr (And.intro ?_ ?_) <;> omega) | (refine And.intro ?_ ?_ <;> omega) | (refine ⟨?_, ?_, ?_⟩ <;> omega))
local macro_rules | `(tactic| walk_at "sq") => `(tactic| first | assumption | exact SqL.of (by assumption) | exact SqT.of (by assumption) | exact SqL.of upd_same | exact SqT.of upd_same)
local macro_rules | `(tactic| walk_at "hp") => `(tactic| first | assumption | exact upd_same)
local macro_rules | `(tactic| walk_at "rd") => `(tactic| repeat (first
  | (refine ⟨_, rfl, ?_⟩) | (refine ⟨_, _, rfl, rfl, ?_⟩) | (refine ⟨rfl, ?_⟩) | (refine And.intro (by walk_at "sd") ?_)
  | (refine ⟨_, _, _, _, rfl, rfl, (by walk_at "sq"), rfl, ?_⟩)
  | (refine ⟨_, _, _, _, rfl, rfl, (by walk_at "hp"), rfl, ?_⟩)
  | (refine Or.inl ⟨_, rfl, ?_⟩)))
section
variable {P : Program} {w : World} {K : PySem.W.Frag} {mg : PySem.Str → Option Value} {base : Heap} {kl : Cl}
theorem text_len {e : Ex} : e.text.length = e.lets + 3 * e.stars := by
  induction e with
  | nil => rfl
  | ltr c r ih =>
    show r.text.length + 1 = r.lets + 1 + 3 * r.stars
    omega
  | star e r ihe ihr =>
    show (e.text ++ (41 :: 42 :: r.text)).length + 1 = e.lets + r.lets + 3 * (e.stars + 1 + r.stars)
    rw [List.length_append, List.length_cons, List.length_cons]
    omega
def spKey : Sp := fun vs H Q _ => ∃ (z : PySem.Str) (e : Ex), vs = [.str z] ∧ e.text = TL.tl z ∧ e.Good ∧ z.length ≤ 100000 ∧ ∀ t H', H t = none → H' = upd H t (.tup [.int (e.stars : Nat), .int (e.lets : Nat), .str z]) → Q (.ref t) H'
theorem ok__law_key (T : FactsT K mg base kl) : Keeps P w K mg base CX0 1 "_law_key" ["_law_text"] spKey := by
  refine keeps0 T.d__law_key sc__law_key (fun vs H Q E h => ?_) (fun f cdv A outer s H vs Q E hr h => ?_)
  · obtain ⟨z, e, rfl, _⟩ := h
    rfl
  · obtain ⟨z, e, rfl, he, hg, hz, k⟩ := h
    refine ⟨_, (pss_one (ps_ret (pe_tup (pa_cons (pe_m1 PySem.F.slot_str_count PySem.F.type_str_count mt_count (pv 0) pe_str) (pa_cons (pe_op op_sub (pe_callB call_len_str (by rfl) T.b_len (by decide +kernel) (pa_cons (pv 0) pa_nil)) (pe_op op_mul pe_int (pe_m1 PySem.F.slot_str_count PySem.F.type_str_count mt_count (pv 0) pe_str))) (pa_cons (pv 0) pa_nil)))))), ?_⟩
    refine ⟨_, rfl, ⟨_, rfl⟩, z, "*", rfl, rfl, ?_⟩
    rw [count_stars he hg]
    refine ⟨_, rfl, z, rfl, Nat.le_trans hz (by decide), _, rfl, ⟨_, rfl⟩, z, "*", rfl, rfl, ?_⟩
    rw [count_stars he hg]
    have zl : (z.length : Int) - 3 * ((e.stars : Nat) : Int) = ((e.lets : Nat) : Int) := by
      rw [len_tl, ← he, text_len]
      omega
    refine ⟨_, _, rfl, rfl, .inl ⟨by decide, by decide⟩, _, _, rfl, rfl, ?_⟩
    have hh : (fun i j : Int => V.int (i - j)) (z.length : Int) (3 * ((e.stars : Nat) : Int)) = .int ((e.lets : Nat) : Int) := congrArg V.int zl
    rw [hh]
    exact ⟨_, rfl, Nat.le_of_ble_eq_true rfl, fun t ht => k t _ ht rfl⟩
theorem ixl (n : Nat) : ixN (n + 1) (-1) = some n := by
  unfold ixN
  rw [if_neg (by omega), if_pos (by omega)]
  congr 1
  omega
theorem set_last {α : Type} (xs : List α) (v w : α) : (xs ++ [v]).set xs.length w = xs ++ [w] := by
  rw [List.set_append_right _ _ (Nat.le_refl _), Nat.sub_self]
  rfl
/-- a list of texts whose signs end so -/
theorem snoc_tl {ss : List PySem.Str} {A : List (List Nat)} {b : List Nat} (h : ss.map TL.tl = A ++ [b]) : ∃ ss0 s0, ss = ss0 ++ [s0] ∧ ss0.map TL.tl = A ∧ TL.tl s0 = b := by
  have hne : ss ≠ [] := fun z => by
    rw [z] at h
    simp at h
  refine ⟨ss.dropLast, ss.getLast hne, (List.dropLast_concat_getLast hne).symm, ?_, ?_⟩
  · have := congrArg List.dropLast h
    rw [List.dropLast_concat] at this
    rw [← this, List.map_dropLast]
  · rw [← List.dropLast_concat_getLast hne, List.map_append] at h
    have := List.append_inj_right' h (by simp)
    simpa using this
def spExpanded : Sp := fun vs H Q _ => ∃ (z : PySem.Str) (e : Ex) (n : Nat), vs = [.str z, .int (n : Int)] ∧ 1 ≤ n ∧ n ≤ 1000 ∧ e.text = TL.tl z ∧ e.Good ∧ z.length ≤ 100000 ∧ (e.row n).length ≤ 1000000 ∧ ∀ (y : PySem.Str) H', Same H H' → TL.tl y = e.row n → Q (.str y) H'
theorem ok__law_expanded (T : FactsT K mg base kl) : Keeps P w K mg base CX0 1 "_law_expanded" ["_law_text", "_law_n"] spExpanded := by
  refine keeps0 T.d__law_expanded sc__law_expanded (fun vs H Q E h => ?_) (fun f cdv A outer s H vs Q E hr h => ?_)
  · obtain ⟨z, e, n, rfl, _⟩ := h
    rfl
  · obtain ⟨z, e, n, rfl, n1, n1000, he, hg, hz, hrl, k⟩ := h
    refine ⟨_, (pss_cons (ps_set (i := 2) sc__law_expanded.nd rfl (Or.inl rfl) (pe_lst (pa_cons pe_str pa_nil)))
  (pss_cons (ps_for PassesOwn.never rfl (pi_str (pv 0)) (pg_name (i := 3) sc__law_expanded.nd rfl (Or.inl rfl))
  (pss_one (ps_if (pt_cmpR op_eq (pv 3) pe_str (nomark _))
  (pss_one (ps_expr (kbm K PySem.F.plainAttrs_list PySem.F.slot_list_append PySem.F.type_list_append mt_append (pv 2) (pa_cons pe_str pa_nil))))
  (pss_one (ps_if (pt_cmpR op_eq (pv 3) pe_str (nomark _))
  (pss_cons (ps_set (i := 4) sc__law_expanded.nd rfl (Or.inl rfl) (kbm0 K PySem.F.plainAttrs_list PySem.F.slot_list_pop PySem.F.type_list_pop mt_pop (pv 2)))
  (pss_one (ps_asg (pe_op op_add_str (pe_ix (kix_list K) (pv 2) (pe_un un_neg pe_int) (fun _ _ => rfl)) (pe_op op_repTxt (pv 4) (pv 1))) (pg_sub (pv 2) (pe_un un_neg pe_int) set_list))))
  (pss_one (ps_if (pt_cmpR op_ne (pv 3) pe_str (nomark _))
  (pss_one (ps_asg (pe_op op_add_str (pe_ix (kix_list K) (pv 2) (pe_un un_neg pe_int) (fun _ _ => rfl)) (pv 3)) (pg_sub (pv 2) (pe_un un_neg pe_int) set_list)))
  pss_nil)))))))
  (pss_one (ps_ret (pe_ix (kix_list K) (pv 2) pe_int (fun _ _ => rfl)))))), ?_⟩
    have zl : (TL.tl z).length = z.cps.size := by rw [← len_tl]; rfl
    refine ⟨Nat.le_of_ble_eq_true rfl, fun L hL => ?_⟩
    have s1' := same_new (o := .lst [.str ""]) hL
    have kL := upd_same (H := H) (a := L) (o := .lst [.str ""])
    generalize upd H L (.lst [.str ""]) = H1 at s1' kL ⊢
    have fL : H L = none := hL
    refine ⟨_, rfl, z, rfl, for_it (walk_str (z := z)) (fun i σ H' => ∃ (v3 v4 : Option V) (fs : List Fr) (d : List Ex) (t : Ex) (ss : List PySem.Str), σ = [some (.str z), some (.int (n : Int)), some (.ref L), v3, v4] ∧ Zp.Ok (TL.tl z) e (fun _ => false) fs d t ∧
      H' L = some (.lst (ss.map V.str)) ∧ ss.map TL.tl = (fs.reverse.map fun f => (Ex.comb f.done).row n) ++ [(Ex.comb d).row n] ∧
      ((t = .nil ∧ fs ≠ [] ∧ i = (Zp.before fs d).length + 1 ∧ (TL.tl z)[i]? = some 42) ∨ i = (Zp.before fs d).length) ∧ Same H H') ⟨_, _, [], [], e, [""], rfl, Zp.start he hg, kL, rfl, .inr rfl, s1'⟩ (fun _ _ _ _ _ => trivial) ?_ ?_⟩
    · rintro i x σ _ H4 hi ⟨v3, v4, fs, d, t, ss, rfl, hO, hLc, hss, hS, s4⟩ ⟨rfl, c, hc, rfl⟩
      have hcT : (TL.tl z)[i]? = some c := by
        rw [← hc]
        show z.cps.toList[i]? = z.cps[i]?
        simp
      have e40 : decide (V.str (⟨#[c]⟩ : PySem.Str) = V.str "(") = decide (c = 40) := deq c 40 sOp
      have e41 : decide (V.str (⟨#[c]⟩ : PySem.Str) = V.str ")") = decide (c = 41) := deq c 41 sCl
      have e42 : decide (V.str (⟨#[c]⟩ : PySem.Str) = V.str "*") = decide (c = 42) := deq c 42 sSt
      have bnd : ∀ {fs : List Fr} {d : List Ex} {t : Ex}, Zp.Ok (TL.tl z) e (fun _ => false) fs d t → ((Ex.comb d).row n).length ≤ 1000000 := fun h => Nat.le_trans (fac_row n1 h.fac.fst) hrl
      rcases hS with ⟨rfl, hf, hl', h42⟩ | hl'
      · -- a starred part ends
        rw [h42] at hcT
        obtain rfl := Option.some.inj hcT
        obtain ⟨f', gs, rfl⟩ : ∃ f' gs, fs = f' :: gs := by
          cases fs with
          | nil => exact absurd rfl hf
          | cons a b => exact ⟨a, b, rfl⟩
        obtain ⟨_, _, _, _, _, _, o7, o8⟩ := hO.close
        have hO7 := o7 rfl
        have b7 := bnd hO7
        rw [List.reverse_cons, List.map_append, List.append_assoc] at hss
        obtain ⟨ss2, s0, rfl, h2, hs0⟩ := snoc_tl (by rw [← List.append_assoc] at hss; exact hss)
        obtain ⟨ss1, s3, rfl, h1, hs3⟩ := snoc_tl h2
        have b8 : ((Ex.comb f'.done).row n).length + (Ex.rep n ((Ex.comb d).row n)).length ≤ 1000000 := by
          rw [Ex.comb_snoc, Ex.row_app, List.length_append] at b7
          have : ((Ex.star (Ex.comb d) .nil).row n).length = (Ex.rep n ((Ex.comb d).row n)).length := by
            show (Ex.rep n ((Ex.comb d).row n) ++ []).length = _
            rw [List.append_nil]
          omega
        have rl : (Ex.rep n ((Ex.comb d).row n)).length = n * ((Ex.comb d).row n).length := by
          unfold Ex.rep
          rw [List.length_flatten, List.map_replicate, List.sum_replicate_nat]
        refine ⟨_, rfl, rfl, _, rfl, ?_⟩
        rw [e40]
        refine iteF ⟨_, rfl, rfl, _, rfl, ?_⟩
        rw [e42]
        refine iteT ?_
        have last : ((ss1 ++ [s3] ++ [s0]).map V.str)[((ss1 ++ [s3] ++ [s0]).map V.str).length - 1]? = some (V.str s0) := by
          rw [List.map_append, List.length_append, List.map_singleton, List.length_singleton, Nat.add_sub_cancel, List.getElem?_append_right (Nat.le_refl _), Nat.sub_self]
          rfl
        refine ⟨_, rfl, .inl ⟨rfl, _, SqL.of hLc⟩, L, _, _, rfl, rfl, hLc, last, ?_⟩
        have k6 : (upd H4 L (.lst ((ss1 ++ [s3] ++ [s0]).map V.str).dropLast)) L = some (.lst (ss1.map V.str ++ [V.str s3])) := by
          rw [upd_same, List.map_append, List.map_singleton, List.dropLast_concat, List.map_append]
          rfl
        have S6 : Same H (upd H4 L (.lst ((ss1 ++ [s3] ++ [s0]).map V.str).dropLast)) := same_mut s4 fL
        generalize upd H4 L (.lst ((ss1 ++ [s3] ++ [s0]).map V.str).dropLast) = H6 at k6 S6 ⊢
        have l3 : s3.length + (repS s0 n).length ≤ sizeLine := by
          rw [repS_len, len_tl, len_tl, hs3, hs0, Int.toNat_natCast]
          rw [rl] at b8
          exact Nat.le_trans b8 (by decide)
        have l4 : s0.length * (n : Int).toNat ≤ sizeLine := by
          rw [len_tl, hs0, Int.toNat_natCast, Nat.mul_comm]
          rw [rl] at b8
          exact Nat.le_trans (show _ ≤ 1000000 by omega) (by decide)
        refine ⟨_, rfl, _, rfl, L, _, _, _, rfl, rfl, SqL.of k6, atI_last _ _, _, rfl, _, rfl, s0, (n : Int), rfl, rfl, by omega, by omega, l4, _, _, rfl, rfl, l3, _, rfl, _, rfl, L, _, _, ss1.length, rfl, rfl, k6, ?_, ?_⟩
        · rw [List.length_append, List.length_map, List.length_singleton]
          exact ixl _
        · rw [show ss1.length = (ss1.map V.str).length from (List.length_map ..).symm, set_last]
          refine ⟨_, _, gs, _, f'.todo, ss1 ++ [s3 ++ repS s0 n], rfl, hO7, by rw [upd_same, List.map_append]; rfl, ?_, .inr (by rw [o8, hl']), same_mut S6 fL⟩
          rw [List.map_append, h1, Ex.comb_snoc, Ex.row_app]
          show _ ++ [TL.tl (s3 ++ repS s0 n)] = _ ++ [(Ex.comb f'.done).row n ++ (Ex.rep n ((Ex.comb d).row n) ++ [])]
          rw [TL.tl_append, repS_tl, hs3, hs0, Int.toNat_natCast, List.append_nil]
          rfl
      · have lt : (Zp.before fs d).length < (TL.tl z).length := by rw [← hl', zl]; exact hi
        rcases hO.more lt with ⟨y, r, rfl⟩ | ⟨y, r, rfl⟩ | ⟨rfl, f', gs, rfl⟩
        · -- a letter
          obtain ⟨o1, o2, o3, o4⟩ := hO.letter
          have b7 := bnd o1
          rw [← hl', hcT] at o2
          obtain rfl := Option.some.inj o2
          obtain ⟨ss0, s0, rfl, h2, hs0⟩ := snoc_tl hss
          refine ⟨_, rfl, rfl, _, rfl, ?_⟩
          rw [e40, decide_eq_false (show ¬ c = 40 by omega)]
          refine iteF ⟨_, rfl, rfl, _, rfl, ?_⟩
          rw [e42, decide_eq_false (show ¬ c = 42 by omega)]
          refine iteF ⟨_, rfl, rfl, _, rfl, ?_⟩
          rw [e41, decide_eq_false (show ¬ c = 41 by omega)]
          refine iteT ?_
          rw [List.map_append, List.map_singleton] at hLc
          have l3 : s0.length + (⟨#[c]⟩ : PySem.Str).length ≤ sizeLine := by
            rw [Ex.comb_snoc, Ex.row_app, List.length_append] at b7
            rw [len_tl, hs0]
            exact Nat.le_trans (show _ ≤ 1000001 from by show _ + 1 ≤ _; omega) (by decide)
          refine ⟨_, rfl, _, rfl, L, _, _, _, rfl, rfl, SqL.of hLc, atI_last _ _, _, rfl, _, _, rfl, rfl, l3, _, rfl, _, rfl, L, _, _, ss0.length, rfl, rfl, hLc, ?_, ?_⟩
          · rw [List.length_append, List.length_map, List.length_singleton]
            exact ixl _
          · rw [show ss0.length = (ss0.map V.str).length from (List.length_map ..).symm, set_last]
            refine ⟨_, _, fs, _, r, ss0 ++ [s0 ++ ⟨#[c]⟩], rfl, o1, by rw [upd_same, List.map_append]; rfl, ?_, .inr (by rw [o4, hl']), same_mut s4 fL⟩
            rw [List.map_append, h2, Ex.comb_snoc, Ex.row_app]
            show _ ++ [TL.tl (s0 ++ ⟨#[c]⟩)] = _
            rw [TL.tl_append, hs0]
            rfl
        · -- a bracket opens
          obtain ⟨o1, o2, o3⟩ := hO.open
          rw [← hl', hcT] at o2
          obtain rfl := Option.some.inj o2
          refine ⟨_, rfl, rfl, _, rfl, ?_⟩
          rw [e40]
          refine iteT ?_
          refine ⟨_, rfl, .inl ⟨rfl, _, SqL.of hLc⟩, ?_⟩
          refine ⟨L, _, _, rfl, rfl, hLc, ?_, ?_⟩
          · have := congrArg List.length hss
            rw [List.length_map, List.length_append, List.length_map, List.length_reverse, List.length_singleton] at this
            rw [List.length_map, this]
            have := before_fs fs d
            have : z.cps.size ≤ 100000 := hz
            exact Nat.lt_of_le_of_lt (show fs.length + 1 ≤ 100001 by omega) (by decide)
          · refine ⟨_, _, _, [], y, ss ++ [("" : PySem.Str)], rfl, o1, by rw [upd_same, List.map_append]; rfl, ?_, .inr (by rw [o3, hl']), same_mut s4 fL⟩
            rw [List.map_append, hss, List.reverse_cons, List.map_append]
            rfl
        · -- a bracket closes: nothing yet
          obtain ⟨o1, o2, _⟩ := hO.close
          rw [← hl', hcT] at o1
          obtain rfl := Option.some.inj o1
          refine ⟨_, rfl, rfl, _, rfl, ?_⟩
          rw [e40]
          refine iteF ⟨_, rfl, rfl, _, rfl, ?_⟩
          rw [e42]
          refine iteF ⟨_, rfl, rfl, _, rfl, ?_⟩
          rw [e41]
          refine iteF ?_
          exact ⟨_, _, _, d, .nil, ss, rfl, hO, hLc, hss, .inl ⟨rfl, by simp, by rw [hl'], by rw [hl']; exact o2⟩, s4⟩
    · rintro σ H4 ⟨v3, v4, fs, d, t, ss, rfl, hO, hLc, hss, hS, s4⟩
      have hend : fs = [] ∧ t = .nil := by
        rcases hS with ⟨_, _, hl', h42⟩ | hl'
        · have := (List.getElem?_eq_some_iff.mp h42).1
          omega
        · exact hO.over (by rw [← hl', zl])
      obtain ⟨rfl, rfl⟩ := hend
      obtain ⟨ss0, s0, rfl, h2, hs0⟩ := snoc_tl hss
      have : ss0 = [] := by
        have := congrArg List.length h2
        simpa using this
      subst this
      have hce := hO.end.2.1
      refine ⟨_, rfl, L, _, 0, _, rfl, rfl, SqL.of hLc, atI_nat (j := 0) rfl, k _ H4 s4 (by rw [hs0, hce])⟩

end
end Pf

namespace Pf
open PySem PySem.Spec PyProof.Rows L2 Bz
local macro_rules | `(tactic| walk_at "sd") => `(tactic| first
  | rfl | assumption | omega | exact Nat.le_of_ble_eq_true rfl | decide | (refine Or.inl (And.intro ?_ ?_) <;> omega) | (refine Or.inr (And.intro ?_ ?_) <;> omega) | (refine And.intro ?_ ?_ <;> omega) | (refine ⟨?_, ?_, ?_⟩ <;> omega))
local macro_rules | `(tactic| walk_at "sq") => `(tactic| first | assumption | exact SqL.of (by assumption) | exact SqT.of (by assumption) | exact SqL.of upd_same | exact SqT.of upd_same)
local macro_rules | `(tactic| walk_at "hp") => `(tactic| first | assumption | exact upd_same)
local macro_rules | `(tactic| walk_at "rd") => `(tactic| repeat (first
  | (refine ⟨_, rfl, ?_⟩) | (refine ⟨_, _, rfl, rfl, ?_⟩) | (refine ⟨rfl, ?_⟩) | (refine And.intro (by walk_at "sd") ?_)
  | (refine ⟨_, _, _, _, rfl, rfl, (by walk_at "sq"), rfl, ?_⟩)
  | (refine ⟨_, _, _, _, rfl, rfl, (by walk_at "hp"), rfl, ?_⟩)
  | (refine Or.inl ⟨_, rfl, ?_⟩)))
section
variable {P : Program} {w : World} {K : PySem.W.Frag} {mg : PySem.Str → Option Value} {base : Heap} {kl : Cl}
theorem ok__law_source (T : FactsT K mg base kl) : Keeps P w K mg base CX0 1 "_law_source" ["_law_script"] (spSource K) := by
  refine keeps0 T.d__law_source sc__law_source (fun vs H Q E h => ?_) (fun f cdv A outer s H vs Q E hr h => ?_)
  · obtain ⟨a, ns, rfl, _⟩ := h
    rfl
  · obtain ⟨a, ns, rfl, hS, k⟩ := h
    refine ⟨_, (pss_cons (ps_asg (pe_tup (pa_cons pe_int (pa_cons pe_int pa_nil))) (kpg_tup K rfl (pgs_cons (pg_name (i := 1) sc__law_source.nd rfl (Or.inl rfl)) (pgs_cons (pg_name (i := 2) sc__law_source.nd rfl (Or.inl rfl)) pgs_nil))))
  (pss_cons (ps_for PassesOwn.never rfl (kpi_list K (pv 0)) (pg_name (i := 3) sc__law_source.nd rfl (Or.inl rfl))
  (Evl.pss_cut (ps_if (PW.pt (pw_and (pt_cmpR op_eq (pv 1) pe_int (nomark _)) (pw_and1 (pt_cmpR op_ge (pv 3) (pe_op op_pow pe_int pe_int) (nomark _)))))
  (pss_one (ps_set (i := 1) sc__law_source.nd rfl (Or.inl rfl) (pv 3)))
  pss_nil)
  (pss_one (ps_set (i := 2) sc__law_source.nd rfl (Or.inl rfl) (pe_op op_modN (pe_callTy call_int1 (by rfl) T.b_int (by decide +kernel) (pa_cons (pe_op op_add (pe_op op_add (pe_op op_mul (pv 2) pe_int) (pv 3)) pe_int) pa_nil)) pe_int)))))
  (pss_one (ps_ret (pe_lst (pa_cons (pv 1) (pa_cons (pv 2) (pa_cons pe_int pa_nil)))))))), ?_⟩
    refine ⟨by decide, fun tp htp => ⟨tp, _, rfl, SqT.of upd_same, rfl, _, _, rfl, _, _, rfl, rfl, ?_⟩⟩
    have hs1 : Same H (upd H tp (.tup [.int 0, .int 17])) := same_new htp
    refine ⟨_, rfl, a, rfl, ⟨_, hs1.seq hS⟩, for_list (K := K) (a := a) (xs := ns.map V.int) (fun i σ H' => ∃ (g s : Int) (v : Option V), σ = [some (.ref a), some (.int g), some (.int s), v] ∧ H' = upd H tp (.tup [.int 0, .int 17]) ∧ 0 ≤ s ∧ s < 2147483647)
      ⟨0, 17, none, rfl, rfl, by decide, by decide⟩ (fun i σ H' _ ⟨_, _, _, _, e, _⟩ => by rw [e]; exact hs1.seq hS) ?_ ?_⟩
    · rintro i y σ H' hi ⟨g, s, v, rfl, rfl, h1, h2⟩
      obtain ⟨u, rfl, hu⟩ := map_int hi
      have e1 := Int.fmod_nonneg_of_pos (s * 31 + u + 7) (b := 2147483647) (by decide)
      have e2 := Int.fmod_lt_of_pos (s * 31 + u + 7) (b := 2147483647) (by decide)
      refine ⟨fun σ' H' => ∃ g' : Int, σ' = [some (.ref a), some (.int g'), some (.int s), some (.int u)] ∧ H' = upd H tp (.tup [.int 0, .int 17]), ?_, ?_⟩
      · walk_at "rd"
        refine ite2 (fun hc => ?_) (fun hc => ?_)
        · walk_at "rd"
          refine ite2 (fun hc => ?_) (fun hc => ?_)
          · exact ⟨_, rfl, u, rfl, rfl⟩
          · exact ⟨g, rfl, rfl⟩
        · exact ⟨g, rfl, rfl⟩
      · rintro σ' H' ⟨g', rfl, rfl⟩
        walk_at "rd"
        exact ⟨g', _, _, rfl, rfl, e1, e2⟩
    · rintro σ H' ⟨g, s, v, rfl, rfl, h1, h2⟩
      walk_at "rd"
      refine fun p hp => ?_
      have hp0 := hs1.free hp
      exact k p _ hp0 ⟨g, s, 0, upd_same, h1, h2, by omega, by omega⟩ (same_mut hs1 hp0)
theorem ok__law_draw (T : FactsT K mg base kl) : Keeps P w K mg base CX0 1 "_law_draw" ["_law_source_here", "_law_many"] spDraw := by
  refine keeps0 T.d__law_draw sc__law_draw (fun vs H Q E h => ?_) (fun f cdv A outer s H vs Q E hr h => ?_)
  · obtain ⟨p, n, c, rfl, _⟩ := h
    rfl
  · obtain ⟨p, n, c, rfl, ⟨g, s, j, hp, h1, h2, h3, h4⟩, hc, n0, n1, k⟩ := h
    refine ⟨_, (pss_cons (ps_asg (pe_op op_add (pe_ix (kix_list K) (pv 0) pe_int (fun _ _ => rfl)) pe_int) (pg_sub (pv 0) pe_int set_list))
  (pss_cons (ps_if (pt_cmpR op_gt (pe_ix (kix_list K) (pv 0) pe_int (fun _ _ => rfl)) pe_int (nomark _))
  (pss_cons (ps_set (i := 2) sc__law_draw.nd rfl (Or.inl rfl) (pe_op op_modN (pe_callTy call_int1 (by rfl) T.b_int (by decide +kernel) (pa_cons (pe_ix (kix_list K) (pv 0) pe_int (fun _ _ => rfl)) pa_nil)) (pv 1)))
  (pss_cons (ps_asg (pe_op op_fdivN (pe_ix (kix_list K) (pv 0) pe_int (fun _ _ => rfl)) (pv 1)) (pg_sub (pv 0) pe_int set_list))
  (pss_one (ps_ret (pv 2)))))
  pss_nil)
  (pss_cons (ps_set (i := 3) sc__law_draw.nd rfl (Or.inl rfl) (pe_op op_modN (pe_op op_pow (pe_op op_add (pe_ix (kix_list K) (pv 0) pe_int (fun _ _ => rfl)) (pe_op op_mul pe_int (pe_ix (kix_list K) (pv 0) pe_int (fun _ _ => rfl)))) pe_int) pe_int))
  (pss_one (ps_ret (pe_op op_modN (pe_op op_modN (pe_op op_pow (pe_op op_add (pe_op op_add (pe_op op_mul (pv 3) pe_int) (pe_op op_mul (pe_op op_mul pe_int (pe_ix (kix_list K) (pv 0) pe_int (fun _ _ => rfl))) (pe_ix (kix_list K) (pv 0) pe_int (fun _ _ => rfl)))) pe_int) pe_int) pe_int) (pv 1))))))), ?_⟩
    walk_at "rd"
    have hb : But p H (upd H p (.lst [.int g, .int s, .int (j + 1)])) := But.upd
    refine ite2 (fun hc => ?_) (fun hc => ?_)
    · walk_at "rd"
      have f1 := Int.fmod_nonneg_of_pos g n0
      have f2 := Int.fmod_lt_of_pos g n0
      exact k _ _ f1 f2 ⟨_, s, j + 1, upd_same, h1, h2, by omega, by omega⟩ (But.trans hb But.upd)
    · walk_at "rd"
      refine And.intro (draw_pow (by omega) (by omega)) ?_
      walk_at "rd"
      exact k _ _ (Int.fmod_nonneg_of_pos _ n0) (Int.fmod_lt_of_pos _ n0) ⟨g, s, j + 1, upd_same, h1, h2, by omega, by omega⟩ hb
theorem ok__law_pick (T : FactsT K mg base kl) : Keeps P w K mg base CX0 2 "_law_pick" ["_law_source_here", "_law_things"] (spPick K) := by
  refine keeps0 T.d__law_pick sc__law_pick (fun vs H Q E h => ?_) (fun f cdv A outer s H vs Q E hr h => ?_)
  · obtain ⟨p, a, xs, c, rfl, _⟩ := h
    rfl
  · obtain ⟨p, a, xs, c, rfl, hS, hc, hx, hne, h0, hl, k⟩ := h
    refine ⟨_, (pss_one (ps_ret (pe_ix (kix_list K) (pv 1) (pe_own (ok__law_draw T) hr (pa_cons (pv 0) (pa_cons (pe_callB (kcall_len K) (by rfl) T.b_len (by decide +kernel) (pa_cons (pv 1) pa_nil)) pa_nil))) (fun _ _ => rfl)))), ?_⟩
    have hpos : 0 < xs.length := List.length_pos_iff.mpr h0
    refine ⟨_, rfl, _, rfl, _, rfl, _, xs.length, rfl, .inl ⟨xs, hx, rfl⟩, p, (xs.length : Int), c, rfl, hS, hc, by omega, by omega, fun r H' r0 r1 hS' hb => ?_⟩
    obtain ⟨v, hv, ha⟩ := atI_of r0 r1
    exact ⟨_, _, _, _, rfl, rfl, hb.ext.sq hne hx, ha, k v H' hv hS' hb⟩

end
end Pf

namespace Pf
open PySem PySem.Spec PyProof.Rows L2 Bz
local macro_rules | `(tactic| walk_at "sd") => `(tactic| first
  | rfl | assumption | omega | exact Nat.le_of_ble_eq_true rfl | decide | (refine Or.inl (And.intro ?_ ?_) <;> omega) | (refine Or.inr (And.intro ?_ ?_) <;> omega) | (refine And.intro ?_ ?_ <;> omega) | (refine ⟨?_, ?_, ?_⟩ <;> omega))
local macro_rules | `(tactic| walk_at "sq") => `(tactic| first | assumption | exact SqL.of (by assumption) | exact SqT.of (by assumption) | exact SqL.of upd_same | exact SqT.of upd_same)
local macro_rules | `(tactic| walk_at "hp") => `(tactic| first | assumption | exact upd_same)
local macro_rules | `(tactic| walk_at "rd") => `(tactic| repeat (first
  | (refine ⟨_, rfl, ?_⟩) | (refine ⟨_, _, rfl, rfl, ?_⟩) | (refine ⟨rfl, ?_⟩) | (refine And.intro (by walk_at "sd") ?_)
  | (refine ⟨_, _, _, _, rfl, rfl, (by walk_at "sq"), rfl, ?_⟩)
  | (refine ⟨_, _, _, _, rfl, rfl, (by walk_at "hp"), rfl, ?_⟩)
  | (refine Or.inl ⟨_, rfl, ?_⟩)))
section
variable {P : Program} {w : World} {K : PySem.W.Frag} {mg : PySem.Str → Option Value} {base : Heap} {kl : Cl}
/-- bounds by the depth: a part's signs, its row's letters at up to 4, the draws for it -/
def Pb : Nat → Nat
  | 0 => 1
  | d + 1 => 3 * Pb d + 3
def Rb : Nat → Nat
  | 0 => 1
  | d + 1 => 12 * Rb d
def Db : Nat → Nat
  | 0 => 2
  | d + 1 => 3 * Db d + 2
structure ExB (e : Ex) (p r : Nat) : Prop where
  good : e.Good
  len : e.text.length ≤ p
  row : ∀ n, n ≤ 4 → (e.row n).length ≤ r
theorem ExB.app {a b : Ex} {p r p' r' : Nat} (h : ExB a p r) (k : ExB b p' r') : ExB (a.app b) (p + p') (r + r') :=
  ⟨Ex.good_app.mpr ⟨h.good, k.good⟩, by rw [Ex.text_app, List.length_append]; exact Nat.add_le_add h.len k.len, fun n hn => by rw [Ex.row_app, List.length_append]; exact Nat.add_le_add (h.row n hn) (k.row n hn)⟩
theorem ExB.mono {a : Ex} {p r p' r' : Nat} (h : ExB a p r) (hp : p ≤ p') (hr : r ≤ r') : ExB a p' r' := ⟨h.good, Nat.le_trans h.len hp, fun n hn => Nat.le_trans (h.row n hn) hr⟩
theorem ExB.star {a : Ex} {p r : Nat} (h : ExB a p r) (n : a ≠ .nil) : ExB (.star a .nil) (p + 3) (4 * r) := by
  refine ⟨⟨n, h.good, True.intro⟩, ?_, fun n hn => ?_⟩
  · show (a.text ++ [41, 42]).length + 1 ≤ _
    rw [List.length_append]
    have := h.len
    show a.text.length + 2 + 1 ≤ _
    omega
  · show (Ex.rep n (a.row n) ++ []).length ≤ _
    rw [List.append_nil]
    unfold Ex.rep
    rw [List.length_flatten, List.map_replicate, List.sum_replicate_nat]
    have := h.row n hn
    exact Nat.mul_le_mul hn this
theorem ExB.ltr {c : Nat} (h : 97 ≤ c ∧ c ≤ 122) : ExB (.ltr c .nil) 1 1 := ⟨⟨h, True.intro⟩, Nat.le_refl _, fun n _ => Nat.le_refl _⟩
theorem pb_pos (d : Nat) : 1 ≤ Pb d := by cases d <;> simp [Pb]
theorem rb_pos : ∀ d : Nat, 1 ≤ Rb d
  | 0 => Nat.le_refl _
  | d + 1 => by
    have := rb_pos d
    show 1 ≤ 12 * Rb d
    omega
def spExpr (K : PySem.W.Frag) (dp : Nat) : Sp := fun vs H Q _ => ∃ (p a : Addr) (c : Nat), vs = [.ref p, .ref a, .int (dp : Int)] ∧ Src H p c ∧ c + 200 * dp ≤ 800000 ∧ SqL K H a [.str (s1 97), .str (s1 98), .str (s1 99), .str (s1 122)] ∧ a ≠ p ∧
  ∀ (y : PySem.Str) (e : Ex) H', TL.tl y = e.text → ExB e (3 * Pb dp) (3 * Rb dp) → e ≠ .nil → Src H' p (c + 1 + 3 * Db dp) → But p H H' → Q (.str y) H'
theorem expr_step (T : FactsT K mg base kl) {k dp : Nat} {sp0 : Sp} (hk : 2 ≤ k) (hd3 : dp ≤ 3) (hSelf : Keeps P w K mg base CX0 k "_law_expression" ["_law_source_here", "_law_signs", "_law_deep"] sp0) (h0 : ∀ d, dp = d + 1 → sp0 = spExpr K d) : Keeps P w K mg base CX0 (k + 1) "_law_expression" ["_law_source_here", "_law_signs", "_law_deep"] (spExpr K dp) := by
  refine keeps0 T.d__law_expression sc__law_expression (fun vs H Q E h => ?_) (fun f cdv A outer s H vs Q E hrS h => ?_)
  · obtain ⟨p, a, c, rfl, _⟩ := h
    rfl
  · obtain ⟨p, a, c, rfl, hS, hc, hq, hne, kk⟩ := h
    have hr := hrS.mono hk
    refine ⟨_, (pss_cons (ps_set (i := 3) sc__law_expression.nd rfl (Or.inl rfl) pe_str)
  (pss_cons (ps_for PassesOwn.never rfl (pi_range1 (by rfl) T.b_range (pa_cons (pe_op op_add pe_int (pe_own (ok__law_draw T) hr (pa_cons (pv 0) (pa_cons pe_int pa_nil)))) pa_nil)) (pg_name (i := 4) sc__law_expression.nd rfl (Or.inl rfl))
  (pss_one (ps_if (PW.pt (pw_and (pt_cmpR op_gt (pv 2) pe_int (nomark _)) (pw_and1 (pt_cmpR op_eq (pe_own (ok__law_draw T) hr (pa_cons (pv 0) (pa_cons pe_int pa_nil))) pe_int (nomark _)))))
  (pss_one (ps_set (i := 3) sc__law_expression.nd rfl (Or.inl rfl) (pe_op op_add_str (pe_op op_add_str (pe_op op_add_str (pv 3) pe_str) (pe_own hSelf hrS (pa_cons (pv 0) (pa_cons (pv 1) (pa_cons (pe_op op_sub (pv 2) pe_int) pa_nil))) (Nat.le_refl _))) pe_str)))
  (pss_one (ps_set (i := 3) sc__law_expression.nd rfl (Or.inl rfl) (pe_op op_add_str (pv 3) (pe_own (ok__law_pick T) hr (pa_cons (pv 0) (pa_cons (pv 1) pa_nil)))))))))
  (pss_one (ps_ret (pv 3))))), ?_⟩
    have db3 : Db dp ≤ 80 := by
      have : dp = 0 ∨ dp = 1 ∨ dp = 2 ∨ dp = 3 := by omega
      rcases this with rfl | rfl | rfl | rfl <;> decide
    have pb3 : Pb dp ≤ 66 := by
      have : dp = 0 ∨ dp = 1 ∨ dp = 2 ∨ dp = 3 := by omega
      rcases this with rfl | rfl | rfl | rfl <;> decide
    refine ⟨_, rfl, p, 3, c, rfl, hS, by omega, by omega, by omega, fun r H1 r0 r1 hS1 b1 => ?_⟩
    refine ⟨_, _, rfl, rfl, 1 + r, rfl, by omega, by omega, for_range (lo := 0) (n := (1 + r).toNat) (fun i σ H' => ∃ (v4 : Option V) (y : PySem.Str) (e : Ex), σ = [some (.ref p), some (.ref a), some (.int (dp : Int)), some (.str y), v4] ∧ TL.tl y = e.text ∧ ExB e (i * Pb dp) (i * Rb dp) ∧ (0 < i → e ≠ .nil) ∧ Src H' p (c + 1 + i * Db dp) ∧ But p H H') ?_ ?_ ?_⟩
    · exact ⟨_, "", .nil, rfl, rfl, ⟨True.intro, by simp [Ex.text], fun n _ => by simp [Ex.row]⟩, fun h => absurd h (by decide), hS1.mono (by omega), b1⟩
    · rintro i σ H2 hi ⟨v4, y, e, rfl, hy, hb, hn, hS2, b2⟩
      have hi3 : i ≤ 2 := by omega
      have yl : y.length ≤ 200 := by
        rw [len_tl, hy]
        refine Nat.le_trans hb.len ?_
        have := Nat.mul_le_mul hi3 pb3
        omega
      have pl : ∀ {H3 : Hp} {cc : Nat}, Src H3 p cc → cc ≤ c + 1 + i * Db dp + 1 → But p H2 H3 → ∃ (pp aa : Addr) (xs : List V) (c' : Nat), [V.ref p, V.ref a] = [V.ref pp, V.ref aa] ∧ Src H3 pp c' ∧ c' ≤ 1000000 ∧ SqL K H3 aa xs ∧ aa ≠ pp ∧ xs ≠ [] ∧ xs.length ≤ 1000000 ∧
          ∀ v H', v ∈ xs → Src H' pp (c' + 1) → But pp H3 H' → ∃ ch : Nat, v = .str (s1 ch) ∧ (y.length + (s1 ch).length ≤ sizeLine) ∧ TL.tl (y ++ s1 ch) = (e.app (.ltr ch .nil)).text ∧ ExB (e.app (.ltr ch .nil)) ((i + 1) * Pb dp) ((i + 1) * Rb dp) ∧ (0 < i + 1 → e.app (.ltr ch .nil) ≠ .nil) ∧ Src H' p (c + 1 + (i + 1) * Db dp) ∧ But p H H' := by
        intro H3 cc hS3 hcc b3
        have m1 := Nat.mul_le_mul hi3 db3
        have sq : SqL K H3 a [.str (s1 97), .str (s1 98), .str (s1 99), .str (s1 122)] := (b2.trans b3).ext.sq hne hq
        refine ⟨p, a, _, cc, rfl, hS3, by omega, sq, hne, by simp, Nat.le_of_ble_eq_true rfl, fun v H' hv hS4 b4 => ?_⟩
        obtain ⟨ch, rfl, hch⟩ : ∃ ch : Nat, v = .str (s1 ch) ∧ (97 ≤ ch ∧ ch ≤ 122) := by
          simp only [List.mem_cons, List.not_mem_nil, or_false] at hv
          rcases hv with rfl | rfl | rfl | rfl
          · exact ⟨97, rfl, by decide, by decide⟩
          · exact ⟨98, rfl, by decide, by decide⟩
          · exact ⟨99, rfl, by decide, by decide⟩
          · exact ⟨122, rfl, by decide, by decide⟩
        have p1 := pb_pos dp
        have r1' := rb_pos dp
        have d2 : 2 ≤ Db dp := by cases dp <;> simp [Db]
        refine ⟨ch, rfl, by rw [s1_len]; exact Nat.le_trans (show _ ≤ 300 by omega) (by decide), ?_, (hb.app (ExB.ltr hch)).mono (by rw [Nat.succ_mul]; omega) (by rw [Nat.succ_mul]; omega), fun _ => Ex.app_ne (.inr (fun z => by cases z)), hS4.mono (by rw [Nat.succ_mul]; omega), (b2.trans b3).trans b4⟩
        rw [TL.tl_append, hy, Ex.text_app]
        rfl
      refine ⟨_, rfl, _, _, rfl, rfl, _, rfl, ite2 (fun h1 => ?_) (fun h1 => ?_)⟩
      · obtain ⟨d, rfl⟩ : ∃ d, dp = d + 1 := ⟨dp - 1, by have : (0 : Int) < (dp : Int) := of_decide_eq_true h1; omega⟩
        have m1 := Nat.mul_le_mul hi3 db3
        refine ⟨_, rfl, p, 3, _, rfl, hS2, by omega, by omega, by omega, fun r2 H3 _ _ hS3 b3 => ?_⟩
        refine ⟨rfl, _, rfl, ite2 (fun h2 => ?_) (fun h2 => ?_)⟩
        · rw [h0 d rfl]
          have l1 : ("(" : PySem.Str).length = 1 := by decide +kernel
          have l2 : (")*" : PySem.Str).length = 2 := by decide +kernel
          refine ⟨_, rfl, _, _, rfl, rfl, by rw [l1]; exact Nat.le_trans (show _ ≤ 300 by omega) (by decide), _, rfl, _, rfl, _, rfl, _, _, rfl, rfl, p, a, _, by show [V.ref p, V.ref a, V.int (((d + 1 : Nat) : Int) - 1)] = _; rw [show (((d + 1 : Nat) : Int) - 1) = (d : Int) from by omega], hS3, ?_, (b2.trans b3).ext.sq hne hq, hne, fun y2 e2 H4 hy2 hb2 hn2 hS4 b4 => ?_⟩
          · omega
          · have y2l : y2.length ≤ 300 := by
              rw [len_tl, hy2]
              refine Nat.le_trans hb2.len ?_
              have : 3 * Pb d + 3 = Pb (d + 1) := rfl
              omega
            have hbs := hb.app (hb2.star hn2)
            refine ⟨_, _, rfl, rfl, by rw [PySem.Str.length_append, l1]; exact Nat.le_trans (show _ ≤ 600 by omega) (by decide), _, _, rfl, rfl, by rw [PySem.Str.length_append, PySem.Str.length_append, l1, l2]; exact Nat.le_trans (show _ ≤ 700 by omega) (by decide), ?_⟩
            refine ⟨_, _, e.app (.star e2 .nil), rfl, ?_, hbs.mono ?_ ?_, fun _ => Ex.app_ne (.inr (fun z => by cases z)), hS4.mono ?_, (b2.trans b3).trans b4⟩
            · rw [TL.tl_append, TL.tl_append, TL.tl_append, hy, hy2, Ex.text_app, show TL.tl ("(" : PySem.Str) = [40] from by decide +kernel, show TL.tl (")*" : PySem.Str) = [41, 42] from by decide +kernel]
              show e.text ++ [40] ++ e2.text ++ [41, 42] = e.text ++ 40 :: (e2.text ++ [41, 42])
              simp
            · have : 3 * Pb d + 3 = Pb (d + 1) := rfl
              have := Nat.add_one_mul i (Pb (d + 1))
              omega
            · have : 12 * Rb d = Rb (d + 1) := rfl
              have := Nat.add_one_mul i (Rb (d + 1))
              omega
            · have : 3 * Db d + 2 = Db (d + 1) := rfl
              have := Nat.add_one_mul i (Db (d + 1))
              omega
        · obtain ⟨pp, aa, xs, c', e1, e2, e3, e4, e5, e6, e7, e8⟩ := pl hS3 (Nat.le_refl _) b3
          refine ⟨_, rfl, _, rfl, _, rfl, pp, aa, xs, c', e1, e2, e3, e4, e5, e6, e7, fun v H' hv hS4 b4 => ?_⟩
          obtain ⟨ch, rfl, g1, g2, g3, g4, g5, g6⟩ := e8 v H' hv hS4 b4
          exact ⟨_, _, rfl, rfl, g1, _, _, _, rfl, g2, g3, g4, g5, g6⟩
      · obtain ⟨pp, aa, xs, c', e1, e2, e3, e4, e5, e6, e7, e8⟩ := pl hS2 (Nat.le_succ _) (But.refl p H2)
        refine ⟨_, rfl, _, rfl, _, rfl, pp, aa, xs, c', e1, e2, e3, e4, e5, e6, e7, fun v H' hv hS4 b4 => ?_⟩
        obtain ⟨ch, rfl, g1, g2, g3, g4, g5, g6⟩ := e8 v H' hv hS4 b4
        exact ⟨_, _, rfl, rfl, g1, _, _, _, rfl, g2, g3, g4, g5, g6⟩
    · rintro σ H2 ⟨v4, y, e, rfl, hy, hb, hn, hS2, b2⟩
      have hr3 : (1 + r).toNat ≤ 3 := by omega
      have m1 := Nat.mul_le_mul_right (Pb dp) hr3
      have m2 := Nat.mul_le_mul_right (Rb dp) hr3
      have m3 := Nat.mul_le_mul_right (Db dp) hr3
      exact ⟨_, rfl, kk y e H2 hy (hb.mono m1 m2) (hn (by omega)) (hS2.mono (by omega)) b2⟩
theorem ok__law_expression (T : FactsT K mg base kl) : Keeps P w K mg base CX0 6 "_law_expression" ["_law_source_here", "_law_signs", "_law_deep"] (spExpr K 3) := by
  have z : Keeps P w K mg base CX0 2 "_law_expression" ["_law_source_here", "_law_signs", "_law_deep"] (fun _ _ _ _ => False) := by
    obtain ⟨f, fd, F, m, b⟩ := T.d__law_expression.ex
    exact ⟨f, fd, ⟨fun _ _ _ _ h => h.elim, fun _ _ _ _ _ _ _ _ _ _ _ _ _ h => h.elim⟩, m, F.kp, b⟩
  have a0 := expr_step (dp := 0) T (Nat.le_refl 2) (by decide) z (fun d h => by cases h)
  have a1 := expr_step (dp := 1) T (by decide) (by decide) a0 (fun d h => by cases h; rfl)
  have a2 := expr_step (dp := 2) T (by decide) (by decide) a1 (fun d h => by cases h; rfl)
  exact expr_step (dp := 3) T (by decide) (by decide) a2 (fun d h => by cases h; rfl)

end
end Pf

namespace Pf
open PySem PySem.Spec PyProof.Rows L2 Bz
local macro_rules | `(tactic| walk_at "sd") => `(tactic| first
  | rfl | assumption | omega | exact Nat.le_of_ble_eq_true rfl | decide | (refine Or.inl (And.intro ?_ ?_) <;> omega) | (refine Or.inr (And.intro ?_ ?_) <;> omega) | (refine And.intro ?_ ?_ <;> omega) | (refine ⟨?_, ?_, ?_⟩ <;> omega))
local macro_rules | `(tactic| walk_at "sq") => `(tactic| first | assumption | exact SqL.of (by assumption) | exact SqT.of (by assumption) | exact SqL.of upd_same | exact SqT.of upd_same)
local macro_rules | `(tactic| walk_at "hp") => `(tactic| first | assumption | exact upd_same)
local macro_rules | `(tactic| walk_at "rd") => `(tactic| repeat (first
  | (refine ⟨_, rfl, ?_⟩) | (refine ⟨_, _, rfl, rfl, ?_⟩) | (refine ⟨rfl, ?_⟩) | (refine And.intro (by walk_at "sd") ?_)
  | (refine ⟨_, _, _, _, rfl, rfl, (by walk_at "sq"), rfl, ?_⟩)
  | (refine ⟨_, _, _, _, rfl, rfl, (by walk_at "hp"), rfl, ?_⟩)
  | (refine Or.inl ⟨_, rfl, ?_⟩)))
section
variable {P : Program} {w : World} {K : PySem.W.Frag} {mg : PySem.Str → Option Value} {base : Heap} {kl : Cl}
theorem sA : ("a" : PySem.Str) = s1 97 ∧ ("b" : PySem.Str) = s1 98 ∧ ("c" : PySem.Str) = s1 99 ∧ ("z" : PySem.Str) = s1 122 := by decide +kernel
theorem tl_eq {a b : PySem.Str} (h : TL.tl a = TL.tl b) : a = b := by
  obtain ⟨⟨x⟩⟩ := a
  obtain ⟨⟨y⟩⟩ := b
  have : x = y := h
  rw [this]
theorem ints_sh {i j : Int} : SeqAt.shaped (.list [.int i, .int j]) = true := (LayAll.lst (n := 0) (.cons .int (.cons .int .nil))).shaped
theorem ints_eq {i j : Int} : PyData.eqv (.list [.int i, .int j]) (.list [.int i, .int j]) = true := by simp [PyData.eqv, PyData.eqvAll]
theorem src_same {H H' : Hp} {p : Addr} {c : Nat} (h : Src H p c) (s : Same H H') : Src H' p c := src_extN h (extN_same s)
theorem fn_law (T : FactsT K mg base kl) {f : Addr} {fd : FuncData} (F : Fun K "law" "law" s_law f fd) : FnOk P w K mg base CX0 7 f fd ["_law_script"] (spLawT K [kl.P_row_of]) := by
  refine F.ok sc_law (fun vs H Q E h => ?_) (fun cdv A outer s H vs Q E hr h => ?_)
  · obtain ⟨a, ns, rfl, _⟩ := h
    rfl
  · obtain ⟨a, ns, rfl, ha, hP, k⟩ := h
    refine ⟨_, (pss_cons (ps_set (i := 1) sc_law.nd rfl (Or.inl rfl) (pe_own (ok__law_source T) hr (pa_cons (pv 0) pa_nil)))
  (pss_cons (ps_for PassesOwn.never rfl (pi_range1 (by rfl) T.b_range (pa_cons pe_int pa_nil)) (pg_name (i := 2) sc_law.nd rfl (Or.inl rfl))
  (pss_cons (ps_set (i := 3) sc_law.nd rfl (Or.inl rfl) (pe_cutE (pe_own (ok__law_expression T) hr (pa_cons (pv 1) (pa_cons (pe_lst (pa_cons pe_str (pa_cons pe_str (pa_cons pe_str (pa_cons pe_str pa_nil))))) (pa_cons pe_int pa_nil))))))
  (pss_cons (ps_set (i := 4) sc_law.nd rfl (Or.inl rfl) (pe_own (ok__law_key T) hr (pa_cons (pv 3) pa_nil)))
  (pss_cons (ps_if (pt_cmpR (kneD K hr.units) (pe_lst (pa_cons (pe_own (ok_stars T) hr (pa_cons (pv 3) pa_nil)) (pa_cons (pe_own (ok_letters T) hr (pa_cons (pv 3) pa_nil)) pa_nil))) (pe_lst (pa_cons (pe_ix (kix_tup K) (pv 4) pe_int (fun _ _ => rfl)) (pa_cons (pe_ix (kix_tup K) (pv 4) pe_int (fun _ _ => rfl)) pa_nil))) (nomark _))
  (pss_one (ps_ret pe_bl))
  pss_nil)
  (pss_cons (ps_for PassesOwn.never rfl (kpi_tup K (pe_tup (pa_cons pe_int (pa_cons pe_int (pa_cons (pe_op op_add pe_int (pe_own (ok__law_draw T) hr (pa_cons (pv 1) (pa_cons pe_int pa_nil)))) pa_nil))))) (pg_name (i := 5) sc_law.nd rfl (Or.inl rfl))
  (pss_one (ps_if (PW.pt (pw_and (pt_cmpR op_lt (pe_callB call_len_str (by rfl) T.b_len (by decide +kernel) (pa_cons (pe_own (ok__law_expanded T) hr (pa_cons (pv 3) (pa_cons (pv 5) pa_nil))) pa_nil)) pe_int (nomark _)) (pw_and1 (pt_cmpR op_ne (pe_own (ok_row_of T) hr (pa_cons (pv 3) (pa_cons (pv 5) pa_nil))) (pe_own (ok__law_expanded T) hr (pa_cons (pv 3) (pa_cons (pv 5) pa_nil))) (nomark _)))))
  (pss_one (ps_ret pe_bl))
  pss_nil)))
  (pss_cons (ps_set (i := 3) sc_law.nd rfl (Or.inl rfl) (pe_cutE (pe_ifExp (pt_cmpR op_lt (pe_callB call_len_str (by rfl) T.b_len (by decide +kernel) (pa_cons (pv 3) pa_nil)) pe_int (nomark _)) (pv 3) pe_str)))
  (pss_cons (ps_set (i := 4) sc_law.nd rfl (Or.inl rfl) (pe_own (ok__law_key T) hr (pa_cons (pv 3) pa_nil)))
  (pss_cons (ps_if (pt_cmpR (kneD K hr.units) (pe_lst (pa_cons (pe_own (ok_stars T) hr (pa_cons (pe_op op_add_str (pe_op op_add_str pe_str (pv 3)) pe_str) pa_nil)) (pa_cons (pe_own (ok_letters T) hr (pa_cons (pe_op op_add_str (pv 3) pe_str) pa_nil)) pa_nil))) (pe_lst (pa_cons (pe_op op_add (pe_ix (kix_tup K) (pv 4) pe_int (fun _ _ => rfl)) pe_int) (pa_cons (pe_op op_add (pe_ix (kix_tup K) (pv 4) pe_int (fun _ _ => rfl)) pe_int) pa_nil))) (nomark _))
  (pss_one (ps_ret pe_bl))
  pss_nil)
  (pss_one (ps_if (PW.pt (pw_and (pt_cmpR op_lt (pe_callB call_len_str (by rfl) T.b_len (by decide +kernel) (pa_cons (pe_own (ok__law_expanded T) hr (pa_cons (pv 3) (pa_cons pe_int pa_nil))) pa_nil)) pe_int (nomark _)) (pw_and1 (pt_cmpR op_ne (pe_own (ok_row_of T) hr (pa_cons (pe_op op_add_str (pe_op op_add_str pe_str (pv 3)) pe_str) (pa_cons pe_int pa_nil))) (pe_op op_repTxt (pe_own (ok__law_expanded T) hr (pa_cons (pv 3) (pa_cons pe_int pa_nil))) pe_int) (nomark _)))))
  (pss_one (ps_ret pe_bl))
  pss_nil))))))))))
  (pss_one (ps_ret pe_bl)))), ?_⟩
    have T0 : LamX.Tabs (tabsOf kl) H := fun q hq => by
      rw [List.mem_singleton.mp hq]
      exact LamX.TabS.nil (hP _ (List.mem_singleton.mpr rfl))
    refine ⟨_, rfl, a, ns, rfl, ha, fun p H1 hp hS sm1 => ?_⟩
    have T1 := T0.ext sm1
    refine ⟨4, rfl, by omega, by omega, for_range (lo := 0) (n := 4) (fun i σ H' => ∃ (v2 v3 v4 v5 : Option V), σ = [some (.ref a), some (.ref p), v2, v3, v4, v5] ∧ Src H' p (1000 * i) ∧ LamX.Tabs (tabsOf kl) H') ⟨_, _, _, _, rfl, hS, T1⟩ ?_ ?_⟩
    · rintro i σ H2 hi ⟨v2, v3, v4, v5, rfl, hS2, T2⟩
      have hi4 : i < 4 := hi
      refine ⟨fun v H' => ∃ (y : PySem.Str) (e : Ex), v = .str y ∧ TL.tl y = e.text ∧ ExB e 198 5184 ∧ e ≠ .nil ∧ Src H' p (1000 * i + 250) ∧ LamX.Tabs (tabsOf kl) H', ?_, ?_⟩
      · refine ⟨_, rfl, Nat.le_of_ble_eq_true rfl, fun L hL => ?_⟩
        have nL : L ≠ p := hS2.ne hL
        have s3 : Same H2 (upd H2 L (.lst [.str "a", .str "b", .str "c", .str "z"])) := same_new hL
        have k3 : (upd H2 L (.lst [.str "a", .str "b", .str "c", .str "z"])) L = some (.lst [.str (s1 97), .str (s1 98), .str (s1 99), .str (s1 122)]) := by
          rw [upd_same, sA.1, sA.2.1, sA.2.2.1, sA.2.2.2]
        have hS3 := hS2.new (o := .lst [.str "a", .str "b", .str "c", .str "z"]) nL
        have T3 := T2.ext s3
        generalize upd H2 L (.lst [.str "a", .str "b", .str "c", .str "z"]) = H3 at s3 k3 hS3 T3 ⊢
        refine ⟨p, L, 1000 * i, rfl, hS3, by omega, SqL.of k3, nL, fun y e H4 hy hb hn hS4 b4 => ⟨y, e, rfl, hy, hb, hn, hS4.mono ?_, tabs_ext T3 hS3 b4.ext⟩⟩
        show 1000 * i + 1 + 3 * 80 ≤ _
        omega
      · rintro v H4 ⟨y, e, rfl, hy, hb, hn, hS4, T4⟩
        have yl : y.length ≤ 198 := by rw [len_tl, hy]; exact hb.len
        refine ⟨_, rfl, y, e, rfl, hy.symm, hb.good, by omega, fun t H5 ht e5 => ?_⟩
        subst e5
        have s5 : Same H4 (upd H4 t (.tup [.int (e.stars : Nat), .int (e.lets : Nat), .str y])) := same_new ht
        have k5 := upd_same (H := H4) (a := t) (o := .tup [.int (e.stars : Nat), .int (e.lets : Nat), .str y])
        generalize upd H4 t (.tup [.int (e.stars : Nat), .int (e.lets : Nat), .str y]) = H5 at s5 k5 ⊢
        refine ⟨_, rfl, y, e, rfl, hy.symm, hb.good, hn, by omega, fun H6 s6 => ⟨_, rfl, y, e, rfl, hy.symm, hb.good, hn, by omega, fun H7 s7 => ⟨Nat.le_of_ble_eq_true rfl, fun A hA => ?_⟩⟩⟩
        have s8 : Same H7 (upd H7 A (.lst [.int (e.stars : Nat), .int (e.lets : Nat)])) := same_new hA
        have k8 := upd_same (H := H7) (a := A) (o := .lst [.int (e.stars : Nat), .int (e.lets : Nat)])
        generalize upd H7 A (.lst [.int (e.stars : Nat), .int (e.lets : Nat)]) = H8 at s8 k8 ⊢
        have S58 := (s6.trans s7).trans s8
        refine ⟨_, rfl, t, _, 0, _, rfl, rfl, SqT.of (S58 _ _ k5), rfl, _, rfl, t, _, 1, _, rfl, rfl, SqT.of (S58 _ _ k5), rfl, Nat.le_of_ble_eq_true rfl, fun B hB => ?_⟩
        have s9 : Same H8 (upd H8 B (.lst [.int (e.stars : Nat), .int (e.lets : Nat)])) := same_new hB
        have k9 := upd_same (H := H8) (a := B) (o := .lst [.int (e.stars : Nat), .int (e.lets : Nat)])
        generalize upd H8 B (.lst [.int (e.stars : Nat), .int (e.lets : Nat)]) = H9 at s9 k9 ⊢
        refine ⟨_, _, .lst (SqL.of (s9 _ _ k8)) (.cons (.int _) (.cons (.int _) .nil)), .lst (SqL.of k9) (.cons (.int _) (.cons (.int _) .nil)), ints_sh, ints_sh, _, rfl, ?_⟩
        rw [ints_eq]
        refine iteF ?_
        have S49 := (s5.trans S58).trans s9
        have hS9 := src_same hS4 S49
        have T9 := T4.ext S49
        refine ⟨_, rfl, p, 4, _, rfl, hS9, by omega, by omega, by omega, fun r H10 r0 r1 hS10 b10 => ?_⟩
        have T10 := tabs_ext T9 hS9 b10.ext
        refine ⟨_, _, rfl, rfl, Nat.le_of_ble_eq_true rfl, fun tq htq => ?_⟩
        have s11 : Same H10 (upd H10 tq (.tup [.int 1, .int 2, .int (1 + r)])) := same_new htq
        have k11 : (upd H10 tq (.tup [.int 1, .int 2, .int (1 + r)])) tq = some (.tup [.int 1, .int 2, .int (1 + r)]) := upd_same
        have hS11 := src_same hS10 s11
        have T11 := T10.ext s11
        generalize upd H10 tq (.tup [.int 1, .int 2, .int (1 + r)]) = H11 at s11 k11 hS11 T11 ⊢
        have hyl : y.length ≤ 100000 := by omega
        have rowb : ∀ n, n ≤ 4 → (e.row n).length ≤ 1000000 := fun n h => Nat.le_trans (hb.row n h) (by decide)
        refine ⟨tq, rfl, ⟨_, SqT.of k11⟩, for_tup (K := K) (a := tq) (xs := [.int 1, .int 2, .int (1 + r)]) (fun j σ H' => ∃ (v5 : Option V), σ = [some (.ref a), some (.ref p), some (.int (0 + (i : Nat))), some (.str y), some (.ref t), v5] ∧ LamX.ExtN H11 H' ∧ LamX.Tabs (tabsOf kl) H') ⟨_, rfl, LamX.ExtN.refl _, T11⟩ (fun j σ H' _ ⟨_, _, e, _⟩ => SqT.of (e _ _ k11 (fun ps z => by cases z))) ?_ ?_⟩
        · rintro j x σ H12 hx ⟨v5, rfl, e12, T12⟩
          obtain ⟨n, rfl, n1, n4⟩ : ∃ n : Nat, x = .int (n : Int) ∧ 1 ≤ n ∧ n ≤ 4 := by
            match j, hx with
            | 0, hx => exact ⟨1, (Option.some.inj hx).symm, by decide, by decide⟩
            | 1, hx => exact ⟨2, (Option.some.inj hx).symm, by decide, by decide⟩
            | 2, hx => exact ⟨(1 + r).toNat, (Option.some.inj hx).symm.trans (by rw [Int.toNat_of_nonneg (by omega)]), by omega, by omega⟩
          refine ⟨_, rfl, _, rfl, y, e, n, rfl, n1, by omega, hy.symm, hb.good, hyl, rowb n n4, fun w H13 s13 hw => ?_⟩
          have wl : w.length ≤ sizeLine := by
            rw [len_tl, hw]
            exact Nat.le_trans (rowb n n4) (by decide)
          refine ⟨w, rfl, wl, _, _, rfl, rfl, _, rfl, ite2 (fun h => ?_) (fun h => ?_)⟩
          · refine ⟨_, rfl, _, rfl, y, e, n, rfl, n1, by omega, hy.symm, hb.good, hn, hyl, rowb n n4, T12.ext s13, fun w2 H14 e14 T14 hw2 => ?_⟩
            refine ⟨_, rfl, _, rfl, y, e, n, rfl, n1, by omega, hy.symm, hb.good, hyl, rowb n n4, fun w3 H15 s15 hw3 => ?_⟩
            obtain rfl : w2 = w3 := tl_eq (hw2.trans hw3.symm)
            refine ⟨rfl, _, rfl, ?_⟩
            rw [decide_eq_true (rfl : V.str w2 = V.str w2)]
            exact iteF ⟨_, rfl, ((e12.trans (extN_same s13)).trans e14).trans (extN_same s15), T14.ext s15⟩
          · exact ⟨_, rfl, e12.trans (extN_same s13), T12.ext s13⟩
        · rintro σ H12 ⟨v5, rfl, e12, T12⟩
          have hS12 := src_extN hS11 e12
          refine ⟨fun v H' => ∃ (y' : PySem.Str) (e' : Ex), v = .str y' ∧ TL.tl y' = e'.text ∧ ExB e' 198 5184 ∧ e' ≠ .nil ∧ H' = H12, ?_, ?_⟩
          · refine ⟨_, rfl, y, rfl, Nat.le_trans hyl (by decide), _, _, rfl, rfl, _, rfl, ite2 (fun h => ?_) (fun h => ?_)⟩
            · exact ⟨_, rfl, y, e, rfl, hy, hb, hn, rfl⟩
            · refine ⟨"ab", .ltr 97 (.ltr 98 .nil), rfl, by decide +kernel, ⟨⟨by decide, by decide, True.intro⟩, by decide, fun n _ => by show 2 ≤ 5184; decide⟩, fun z => (by cases z), rfl⟩
          · rintro v H12 ⟨y, e, rfl, hy, hb, hn, rfl⟩
            have yl : y.length ≤ 198 := by rw [len_tl, hy]; exact hb.len
            refine ⟨_, rfl, y, e, rfl, hy.symm, hb.good, by omega, fun t2 H13 ht2 e13 => ?_⟩
            subst e13
            have s13 : Same _ (upd _ t2 (.tup [.int (e.stars : Nat), .int (e.lets : Nat), .str y])) := same_new ht2
            have k13 := upd_same (H := H12) (a := t2) (o := .tup [.int (e.stars : Nat), .int (e.lets : Nat), .str y])
            generalize upd _ t2 (.tup [.int (e.stars : Nat), .int (e.lets : Nat), .str y]) = H13 at s13 k13 ⊢
            have lo : ("(" : PySem.Str).length = 1 := by decide +kernel
            have lc : (")*" : PySem.Str).length = 2 := by decide +kernel
            have la : ("a" : PySem.Str).length = 1 := by decide +kernel
            have b1 : ("(" : PySem.Str).length + y.length ≤ sizeLine := by rw [lo]; exact Evl.sz_of (by omega)
            have b2 : ("(" ++ y : PySem.Str).length + (")*" : PySem.Str).length ≤ sizeLine := by rw [PySem.Str.length_append, lo, lc]; exact Evl.sz_of (by omega)
            have b3 : y.length + ("a" : PySem.Str).length ≤ sizeLine := by rw [la]; exact Evl.sz_of (by omega)
            have gS : (Ex.star e .nil).Good := ⟨hn, hb.good, True.intro⟩
            have tS : (Ex.star e .nil).text = TL.tl ("(" ++ y ++ ")*") := by
              rw [TL.tl_append, TL.tl_append, hy, show TL.tl ("(" : PySem.Str) = [40] from by decide +kernel, show TL.tl (")*" : PySem.Str) = [41, 42] from by decide +kernel]
              rfl
            have nS : Ex.star e .nil ≠ .nil := fun z => by cases z
            have lS : ("(" ++ y ++ ")*" : PySem.Str).length ≤ 100000 := by rw [PySem.Str.length_append, PySem.Str.length_append, lo, lc]; omega
            have gA : (e.app (.ltr 97 .nil)).Good := Ex.good_app.mpr ⟨hb.good, ⟨by decide, by decide⟩, True.intro⟩
            have tA : (e.app (.ltr 97 .nil)).text = TL.tl (y ++ "a") := by
              rw [TL.tl_append, hy, Ex.text_app, show TL.tl ("a" : PySem.Str) = [97] from by decide +kernel]
              rfl
            have nA : e.app (.ltr 97 .nil) ≠ .nil := Ex.app_ne (.inl hn)
            have lA : (y ++ "a" : PySem.Str).length ≤ 100000 := by rw [PySem.Str.length_append, la]; omega
            refine ⟨_, rfl, _, _, rfl, rfl, b1, _, _, rfl, rfl, b2, _, .star e .nil, rfl, tS, gS, nS, lS, fun H14 s14 => ⟨_, rfl, _, _, rfl, rfl, b3, _, e.app (.ltr 97 .nil), rfl, tA, gA, nA, lA, fun H15 s15 => ⟨Nat.le_of_ble_eq_true rfl, fun A2 hA2 => ?_⟩⟩⟩
            have v1 : V.int (((Ex.star e .nil).stars : Nat) : Int) = .int ((e.stars : Nat) + 1) := by
              congr 1
            have v2 : V.int (((e.app (.ltr 97 .nil)).lets : Nat) : Int) = .int ((e.lets : Nat) + 1) := by
              rw [Ex.lets_app]
              congr 1
            rw [v1, v2]
            have s16 : Same H15 (upd H15 A2 (.lst [.int ((e.stars : Nat) + 1), .int ((e.lets : Nat) + 1)])) := same_new hA2
            have k16 := upd_same (H := H15) (a := A2) (o := .lst [.int ((e.stars : Nat) + 1), .int ((e.lets : Nat) + 1)])
            generalize upd H15 A2 (.lst [.int ((e.stars : Nat) + 1), .int ((e.lets : Nat) + 1)]) = H16 at s16 k16 ⊢
            have S136 := (s14.trans s15).trans s16
            refine ⟨_, rfl, t2, _, 0, _, rfl, rfl, SqT.of (S136 _ _ k13), rfl, _, _, rfl, rfl, _, rfl, t2, _, 1, _, rfl, rfl, SqT.of (S136 _ _ k13), rfl, _, _, rfl, rfl, Nat.le_of_ble_eq_true rfl, fun B2 hB2 => ?_⟩
            have s17 : Same H16 (upd H16 B2 (.lst [.int ((e.stars : Nat) + 1), .int ((e.lets : Nat) + 1)])) := same_new hB2
            have k17 := upd_same (H := H16) (a := B2) (o := .lst [.int ((e.stars : Nat) + 1), .int ((e.lets : Nat) + 1)])
            have G17 : ∀ (X : Hp), X = upd H16 B2 (.lst [.int ((e.stars : Nat) + 1), .int ((e.lets : Nat) + 1)]) → True := fun _ _ => True.intro
            refine ⟨_, _, .lst (SqL.of (s17 _ _ k16)) (.cons (.int _) (.cons (.int _) .nil)), .lst (SqL.of k17) (.cons (.int _) (.cons (.int _) .nil)), ints_sh, ints_sh, _, rfl, ?_⟩
            rw [ints_eq]
            refine iteF ?_
            have S17 : Same H12 (upd H16 B2 (.lst [.int ((e.stars : Nat) + 1), .int ((e.lets : Nat) + 1)])) := (s13.trans S136).trans s17
            have hS17 := src_same hS12 S17
            have T17 := T12.ext S17
            have r2 : (e.row 2).length ≤ 1000000 := Nat.le_trans (hb.row 2 (by decide)) (by decide)
            have rs : ((Ex.star e .nil).row 2).length ≤ 1000000 := by
              show (Ex.rep 2 (e.row 2) ++ []).length ≤ _
              rw [List.append_nil]
              unfold Ex.rep
              rw [List.length_flatten, List.map_replicate, List.sum_replicate_nat]
              have := hb.row 2 (by decide)
              omega
            refine ⟨_, rfl, y, e, 2, rfl, by decide, by decide, hy.symm, hb.good, by omega, r2, fun w H18 s18 hw => ?_⟩
            have wl : w.length ≤ sizeLine := by
              rw [len_tl, hw]
              exact Nat.le_trans r2 (by decide)
            refine ⟨w, rfl, wl, _, _, rfl, rfl, _, rfl, ite2 (fun h => ?_) (fun h => ?_)⟩
            · refine ⟨_, rfl, _, _, rfl, rfl, b1, _, _, rfl, rfl, b2, _, .star e .nil, 2, rfl, by decide, by decide, tS, gS, nS, lS, rs, T17.ext s18, fun w2 H19 e19 T19 hw2 => ?_⟩
              refine ⟨_, rfl, y, e, 2, rfl, by decide, by decide, hy.symm, hb.good, by omega, r2, fun w3 H20 s20 hw3 => ?_⟩
              have w3l : w3.length * (2 : Int).toNat ≤ sizeLine := by
                rw [len_tl, hw3]
                exact Nat.le_trans (show _ ≤ 2000000 by show (e.row 2).length * 2 ≤ _; omega) (by decide)
              refine ⟨w3, 2, rfl, rfl, by decide, by decide, w3l, rfl, _, rfl, ?_⟩
              have eq2 : w2 = repS w3 2 := tl_eq (by
                rw [hw2, repS_tl, hw3]
                show Ex.rep 2 (e.row 2) ++ [] = Ex.rep 2 (e.row 2)
                rw [List.append_nil])
              rw [← eq2, decide_eq_true (rfl : V.str w2 = V.str w2)]
              exact iteF ⟨_, _, _, _, rfl, (src_same (src_extN (src_same hS17 s18) e19) s20).mono (by omega), T19.ext s20⟩
            · exact ⟨_, _, _, _, rfl, (src_same hS17 s18).mono (by omega), T17.ext s18⟩
    · rintro σ H2 ⟨v2, v3, v4, v5, rfl, hS2, T2⟩
      exact k _

end
end Pf

namespace Pf
open PySem PySem.Spec PyProof.Rows L2 Bz
/-- what the top has left of a def -/
structure DefK (K : PySem.W.Frag) (x qual : PySem.Str) (st : Stmt) (f : Addr) : Prop where
  ex : ∃ (oc : Value) (od : Option Addr) (kV doc pm : Value) (an : Option Addr) (cdv ct : Value) (osl : Array (Option Value)),
    K.lookup f = some ⟨oc, od, .func (PySem.W.fnOf x qual (defArgs st) (defBody st) (defScope st) .none kV doc pm an cdv ct), osl⟩ ∧ PySem.W.codeIn K cdv qual = true
  kp : PySem.W.keepIn K (.ref f) = true
theorem defK_mk {K : PySem.W.Frag} {x qual : PySem.Str} {st : Stmt} {f : Addr} {oc : Value} {od : Option Addr} {kV doc pm : Value} {an : Option Addr} {cdv ct : Value} {osl : Array (Option Value)}
    (l : K.lookup f = some ⟨oc, od, .func (PySem.W.fnOf x qual (defArgs st) (defBody st) (defScope st) .none kV doc pm an cdv ct), osl⟩) (c : PySem.W.codeIn K cdv qual = true) (k : PySem.W.keepIn K (.ref f) = true) : DefK K x qual st f := ⟨⟨oc, od, kV, doc, pm, an, cdv, ct, osl, l, c⟩, k⟩
theorem propOf_mk {K : PySem.W.Frag} {C : Addr} {f : PySem.Str} {p g : Addr} {rest : List Value} (h1 : PySem.W.findIn K (.ref C) f = some (some (.ref p))) (h2 : PySem.W.specialIn K (.ref p) "__get__" = some (some (.builtin "property.__get__"))) (h3 : PySem.W.takesIn K (.ref p) = some true)
    (h4 : PySem.W.recIn K p "property" = some (.ref g :: rest)) : PropOf K C f p g := ⟨h1, h2, h3, rest, h4⟩
theorem DefK.fn {K : PySem.W.Frag} {x qual : PySem.Str} {st : Stmt} {f : Addr} (D : DefK K x qual st f) : ∃ fd, Fun K x qual st f fd := by
  obtain ⟨⟨oc, od, kV, doc, pm, an, cdv, ct, osl, l, c⟩, k⟩ := D
  exact ⟨_, fun_mk l c k⟩
theorem DefK.at_ {K : PySem.W.Frag} {mg : PySem.Str → Option Value} {x : PySem.Str} {st : Stmt} {f : Addr} {ps : List PySem.Str} (D : DefK K x x st f) (m : mg x = some (.ref f))
    (h : ∀ (kV doc pm : Value) (an : Option Addr) (cdv ct : Value) (us : List Value), us.length = ps.length → bindArgs (PySem.W.fnOf x x (defArgs st) (defBody st) (defScope st) .none kV doc pm an cdv ct) ⟨us, []⟩ = pure (ps.zip us)) : DefAt K mg x st ps := by
  obtain ⟨fd, F⟩ := D.fn
  exact ⟨f, fd, F, m, F.binds h⟩
theorem DefK.init_ {K : PySem.W.Frag} {C : Addr} {qual : PySem.Str} {st : Stmt} {f : Addr} {ps : List PySem.Str} (D : DefK K "__init__" qual st f) (m : Mk K C f)
    (h : ∀ (kV doc pm : Value) (an : Option Addr) (cdv ct : Value) (us : List Value), us.length = ps.length → bindArgs (PySem.W.fnOf "__init__" qual (defArgs st) (defBody st) (defScope st) .none kV doc pm an cdv ct) ⟨us, []⟩ = pure (ps.zip us)) : InitAt K C qual st ps := by
  obtain ⟨fd, F⟩ := D.fn
  exact ⟨f, fd, m, F, F.binds h⟩
theorem DefK.prop_ {K : PySem.W.Frag} {C : Addr} {x qual : PySem.Str} {st : Stmt} {p f : Addr} (D : DefK K x qual st f) (m : PropOf K C x p f)
    (h : ∀ (kV doc pm : Value) (an : Option Addr) (cdv ct : Value) (us : List Value), us.length = (["self"] : List PySem.Str).length → bindArgs (PySem.W.fnOf x qual (defArgs st) (defBody st) (defScope st) .none kV doc pm an cdv ct) ⟨us, []⟩ = pure ((["self"] : List PySem.Str).zip us)) : PropAt K C x qual st := by
  obtain ⟨fd, F⟩ := D.fn
  exact ⟨p, f, fd, m, F, F.binds h⟩
theorem DefK.eq_ {K : PySem.W.Frag} {C : Addr} {qual : PySem.Str} {st : Stmt} {f : Addr} (D : DefK K "__eq__" qual st f) (q : PySem.W.findIn K (.ref C) "__eq__" = some (some (.ref f))) (u : PySem.W.isFn K (.ref f) = true)
    (h : ∀ (kV doc pm : Value) (an : Option Addr) (cdv ct : Value) (us : List Value), us.length = (["self", "other"] : List PySem.Str).length → bindArgs (PySem.W.fnOf "__eq__" qual (defArgs st) (defBody st) (defScope st) .none kV doc pm an cdv ct) ⟨us, []⟩ = pure ((["self", "other"] : List PySem.Str).zip us)) : EqAt K C qual st := by
  obtain ⟨fd, F⟩ := D.fn
  exact ⟨f, fd, q, u, F, F.binds h⟩
theorem DefK.meth_ {K : PySem.W.Frag} {C : Addr} {x qual : PySem.Str} {st : Stmt} {f : Addr} {ps : List PySem.Str} (D : DefK K x qual st f) (q : PySem.W.findIn K (.ref C) x = some (some (.ref f))) (u : PySem.W.isFn K (.ref f) = true)
    (h : ∀ (kV doc pm : Value) (an : Option Addr) (cdv ct : Value) (us : List Value), us.length = ps.length → bindArgs (PySem.W.fnOf x qual (defArgs st) (defBody st) (defScope st) .none kV doc pm an cdv ct) ⟨us, []⟩ = pure (ps.zip us)) : MethAt K C x qual st ps := by
  obtain ⟨fd, F⟩ := D.fn
  exact ⟨f, fd, ⟨q, u, D.kp⟩, F, F.binds h⟩
theorem oexC_mk {K : PySem.W.Frag} {C P : Addr} {nm q : PySem.Str} {N : Addr} {bs : List Value} {sn : List PySem.Str} {sub : List Value} {ab : Bool} {col : Option Bool} {dd : Option Addr} {m0 m1 m2 m3 m5 : Option Value}
    (xL : K.lookup C = some (excClassObj nm q C N bs [.ref P, .type "ValueError", .type "Exception", .type "BaseException", .type "object"] true sn sub ab col dd m0 m1 m2 m3 m5 "ValueError.__new__"))
    (sa : PySem.W.findIn K (.ref C) "__setattr__" = some (some (.builtin "object.__setattr__"))) (ex : PySem.W.subIn K (.ref C) (.type "BaseException") = some true) (ty : PySem.W.typeIn K (.ref C) = some (.type "type")) (kc : PySem.W.keepIn K (.ref C) = true) : OexC K C :=
  ⟨⟨nm, q, N, bs, _, sn, sub, ab, col, dd, m0, m1, m2, m3, m5, xL, by exact (by decide +kernel : PySem.HandSPX.refsVE [.type "ValueError", .type "Exception", .type "BaseException", .type "object"] = true)⟩, sa, ex, ty, kc⟩
theorem DefK.err0_ {K : PySem.W.Frag} {mg : PySem.Str → Option Value} {C : Addr} {x qual : PySem.Str} {st : Stmt} {f : Addr} (D : DefK K "__init__" qual st f) (g : mg x = some (.ref C)) (o : OexC K C) (hd : PySem.W.hasDictIn K C = true) (ss : PySem.W.subIn K (.ref C) (.ref C) = some true)
    (i : PySem.W.findIn K (.ref C) "__init__" = some (some (.ref f))) (t : PySem.W.typeIn K (.ref f) = some (.type "function"))
    (h : ∀ (kV doc pm : Value) (an : Option Addr) (cdv ct : Value) (us : List Value), us.length = (["self"] : List PySem.Str).length → bindArgs (PySem.W.fnOf "__init__" qual (defArgs st) (defBody st) (defScope st) .none kV doc pm an cdv ct) ⟨us, []⟩ = pure ((["self"] : List PySem.Str).zip us)) : Err0 K mg x qual C st := by
  obtain ⟨fd, F⟩ := D.fn
  exact ⟨g, o, hd, ss, f, fd, i, t, F, F.binds h⟩
theorem DefK.err1_ {K : PySem.W.Frag} {mg : PySem.Str → Option Value} {C : Addr} {x qual fl : PySem.Str} {st : Stmt} {f : Addr} (D : DefK K "__init__" qual st f) (g : mg x = some (.ref C)) (o : OexC K C) (hd : PySem.W.hasDictIn K C = true) (ss : PySem.W.subIn K (.ref C) (.ref C) = some true)
    (no : PySem.W.findIn K (.ref C) fl = some none) (ga : PySem.W.findIn K (.ref C) "__getattribute__" = some (some (.builtin "BaseException.__getattribute__"))) (gg : PySem.W.findIn K (.ref C) "__getattr__" = some none)
    (i : PySem.W.findIn K (.ref C) "__init__" = some (some (.ref f))) (t : PySem.W.typeIn K (.ref f) = some (.type "function"))
    (h : ∀ (kV doc pm : Value) (an : Option Addr) (cdv ct : Value) (us : List Value), us.length = (["self", fl] : List PySem.Str).length → bindArgs (PySem.W.fnOf "__init__" qual (defArgs st) (defBody st) (defScope st) .none kV doc pm an cdv ct) ⟨us, []⟩ = pure ((["self", fl] : List PySem.Str).zip us)) : Err1 K mg x qual fl C st := by
  obtain ⟨fd, F⟩ := D.fn
  exact ⟨g, o, hd, ss, no, ga, gg, f, fd, i, t, F, F.binds h⟩
/-- what the top has left of a def that makes lambdas -/
structure DefKL (K : PySem.W.Frag) (x qual : PySem.Str) (st : Stmt) (f c : Addr) : Prop where
  ex : ∃ (oc : Value) (od : Option Addr) (kV doc pm : Value) (an : Option Addr) (ct : Value) (osl : Array (Option Value)),
    K.lookup f = some ⟨oc, od, .func (PySem.W.fnOf x qual (defArgs st) (defBody st) (defScope st) .none kV doc pm an (.ref c) ct), osl⟩ ∧ PySem.W.codeIn K (.ref c) qual = true
  kp : PySem.W.keepIn K (.ref f) = true
theorem defKL_mk {K : PySem.W.Frag} {x qual : PySem.Str} {st : Stmt} {f c : Addr} {oc : Value} {od : Option Addr} {kV doc pm : Value} {an : Option Addr} {ct : Value} {osl : Array (Option Value)}
    (l : K.lookup f = some ⟨oc, od, .func (PySem.W.fnOf x qual (defArgs st) (defBody st) (defScope st) .none kV doc pm an (.ref c) ct), osl⟩) (hc : PySem.W.codeIn K (.ref c) qual = true) (k : PySem.W.keepIn K (.ref f) = true) : DefKL K x qual st f c := ⟨⟨oc, od, kV, doc, pm, an, ct, osl, l, hc⟩, k⟩
theorem DefKL.toK {K : PySem.W.Frag} {x qual : PySem.Str} {st : Stmt} {f c : Addr} (D : DefKL K x qual st f c) : DefK K x qual st f := by
  obtain ⟨⟨oc, od, kV, doc, pm, an, ct, osl, l, h⟩, k⟩ := D
  exact ⟨⟨oc, od, kV, doc, pm, an, _, ct, osl, l, h⟩, k⟩
theorem DefKL.atL_ {K : PySem.W.Frag} {mg : PySem.Str → Option Value} {x : PySem.Str} {st : Stmt} {f c : Addr} {ps : List PySem.Str} (D : DefKL K x x st f c) (m : mg x = some (.ref f))
    (h : ∀ (kV doc pm : Value) (an : Option Addr) (cdv ct : Value) (us : List Value), us.length = ps.length → bindArgs (PySem.W.fnOf x x (defArgs st) (defBody st) (defScope st) .none kV doc pm an cdv ct) ⟨us, []⟩ = pure (ps.zip us)) : DefAtL K mg x st ps c := by
  obtain ⟨⟨oc, od, kV, doc, pm, an, ct, osl, l, hc⟩, k⟩ := D
  exact ⟨f, _, ⟨⟨oc, od, kV, doc, pm, an, ct, osl, rfl, l, hc⟩, k⟩, m, (fun_mk l hc k).binds h⟩
theorem DefKL.tab_ {K : PySem.W.Frag} {h : Heap} {x qual : PySem.Str} {st : Stmt} {f c P : Addr} (D : DefKL K x qual st f c) (O : LamX.OwnTab K f h) (cd : PySem.W.codeHdIn K c P = true) : h.get? P = some { cls := .none, data := .fields #[] } := by
  obtain ⟨⟨oc, od, kV, doc, pm, an, ct, osl, l, hc⟩, k⟩ := D
  exact tab_of O l rfl cd
theorem all_mk {l : PySem.W.OpenLaw} {w : World} {K : PySem.W.Frag} {h : Heap} {mg : PySem.Str → Option Value} {fa : Addr} (X : K.In h) (G : h.Ns mainGlobals mg) (hfa : mg "law" = some (.ref fa)) (own : ∀ z ∈ (["row_of"] : List PySem.Str), ∀ f, mg z = some (.ref f) → LamX.OwnTab K f h)
    {C_BadNumber P_BadNumber f1 C_BadExpression P_BadExpression f2 f3 f4 f5 f6 f7 f8 c_row_of P_row_of f9 f10 f11 f12 f13 f14 f15 f16 f17 f18 f19 f20 : Addr} {t_SIGNS_OF_A_STAR : Tok} {nm_1 q_1 : PySem.Str} {N_1 : Addr} {bs_1 : List Value} {sn_1 : List PySem.Str} {sub_1 : List Value} {ab_1 : Bool} {col_1 : Option Bool} {dd_1 : Option Addr} {v0_1 v1_1 v2_1 v3_1 v5_1 : Option Value} {nm_2 q_2 : PySem.Str} {N_2 : Addr} {bs_2 : List Value} {sn_2 : List PySem.Str} {sub_2 : List Value} {ab_2 : Bool} {col_2 : Option Bool} {dd_2 : Option Addr} {v0_2 v1_2 v2_2 v3_2 v5_2 : Option Value} {dd_8 : Option Addr} {vs_8 : Array Value} {cs_8 : Array (Option Value)}
    (gC_BadNumber : PySem.W.nsIn K mainGlobals "BadNumber" = some (some (.ref C_BadNumber)))
    (xC_BadNumber : K.lookup C_BadNumber = some (excClassObj nm_1 q_1 C_BadNumber N_1 bs_1 [.ref P_BadNumber, .type "ValueError", .type "Exception", .type "BaseException", .type "object"] true sn_1 sub_1 ab_1 col_1 dd_1 v0_1 v1_1 v2_1 v3_1 v5_1 "ValueError.__new__"))
    (saC_BadNumber : PySem.W.findIn K (.ref C_BadNumber) "__setattr__" = some (some (.builtin "object.__setattr__")))
    (exC_BadNumber : PySem.W.subIn K (.ref C_BadNumber) (.type "BaseException") = some true)
    (tyC_BadNumber : PySem.W.typeIn K (.ref C_BadNumber) = some (.type "type"))
    (kcC_BadNumber : PySem.W.keepIn K (.ref C_BadNumber) = true)
    (hdC_BadNumber : PySem.W.hasDictIn K C_BadNumber = true)
    (ssC_BadNumber : PySem.W.subIn K (.ref C_BadNumber) (.ref C_BadNumber) = some true)
    (noC_BadNumber : PySem.W.findIn K (.ref C_BadNumber) "number" = some none)
    (gaC_BadNumber : PySem.W.findIn K (.ref C_BadNumber) "__getattribute__" = some (some (.builtin "BaseException.__getattribute__")))
    (ggC_BadNumber : PySem.W.findIn K (.ref C_BadNumber) "__getattr__" = some none)
    (iC_BadNumber : PySem.W.findIn K (.ref C_BadNumber) "__init__" = some (some (.ref f1)))
    (tC_BadNumber : PySem.W.typeIn K (.ref f1) = some (.type "function"))
    (D1 : DefK K "__init__" "BadNumber.__init__" s_BadNumber___init__ f1)
    (gC_BadExpression : PySem.W.nsIn K mainGlobals "BadExpression" = some (some (.ref C_BadExpression)))
    (xC_BadExpression : K.lookup C_BadExpression = some (excClassObj nm_2 q_2 C_BadExpression N_2 bs_2 [.ref P_BadExpression, .type "ValueError", .type "Exception", .type "BaseException", .type "object"] true sn_2 sub_2 ab_2 col_2 dd_2 v0_2 v1_2 v2_2 v3_2 v5_2 "ValueError.__new__"))
    (saC_BadExpression : PySem.W.findIn K (.ref C_BadExpression) "__setattr__" = some (some (.builtin "object.__setattr__")))
    (exC_BadExpression : PySem.W.subIn K (.ref C_BadExpression) (.type "BaseException") = some true)
    (tyC_BadExpression : PySem.W.typeIn K (.ref C_BadExpression) = some (.type "type"))
    (kcC_BadExpression : PySem.W.keepIn K (.ref C_BadExpression) = true)
    (hdC_BadExpression : PySem.W.hasDictIn K C_BadExpression = true)
    (ssC_BadExpression : PySem.W.subIn K (.ref C_BadExpression) (.ref C_BadExpression) = some true)
    (noC_BadExpression : PySem.W.findIn K (.ref C_BadExpression) "place" = some none)
    (gaC_BadExpression : PySem.W.findIn K (.ref C_BadExpression) "__getattribute__" = some (some (.builtin "BaseException.__getattribute__")))
    (ggC_BadExpression : PySem.W.findIn K (.ref C_BadExpression) "__getattr__" = some none)
    (iC_BadExpression : PySem.W.findIn K (.ref C_BadExpression) "__init__" = some (some (.ref f2)))
    (tC_BadExpression : PySem.W.typeIn K (.ref f2) = some (.type "function"))
    (D2 : DefK K "__init__" "BadExpression.__init__" s_BadExpression___init__ f2)
    (a3 : PySem.W.nsIn K mainGlobals "is_integer" = some (some (.ref f3)))
    (D3 : DefK K "is_integer" "is_integer" s_is_integer f3)
    (a4 : PySem.W.nsIn K mainGlobals "has_only_letters" = some (some (.ref f4)))
    (D4 : DefK K "has_only_letters" "has_only_letters" s_has_only_letters f4)
    (a5 : PySem.W.nsIn K mainGlobals "is_letter" = some (some (.ref f5)))
    (D5 : DefK K "is_letter" "is_letter" s_is_letter f5)
    (a6 : PySem.W.nsIn K mainGlobals "stars" = some (some (.ref f6)))
    (D6 : DefK K "stars" "stars" s_stars f6)
    (a7 : PySem.W.nsIn K mainGlobals "letters" = some (some (.ref f7)))
    (D7 : DefK K "letters" "letters" s_letters f7)
    (a8 : PySem.W.nsIn K mainGlobals "row_of" = some (some (.ref f8)))
    (D8 : DefKL K "row_of" "row_of" s_row_of f8 c_row_of)
    (lc8 : K.lookup c_row_of = some ⟨.type "code", dd_8, .fields vs_8, cs_8⟩)
    (lp8 : vs_8[11]? = some (.ref P_row_of))
    (lh8 : PySem.W.codeHdIn K c_row_of P_row_of = true)
    (ln8 : K.lookup P_row_of = none)
    (a9 : PySem.W.nsIn K mainGlobals "check_expression" = some (some (.ref f9)))
    (D9 : DefK K "check_expression" "check_expression" s_check_expression f9)
    (a10 : PySem.W.nsIn K mainGlobals "wrong_place" = some (some (.ref f10)))
    (D10 : DefK K "wrong_place" "wrong_place" s_wrong_place f10)
    (a11 : PySem.W.nsIn K mainGlobals "may_follow" = some (some (.ref f11)))
    (D11 : DefK K "may_follow" "may_follow" s_may_follow f11)
    (a12 : PySem.W.nsIn K mainGlobals "put_together" = some (some (.ref f12)))
    (D12 : DefK K "put_together" "put_together" s_put_together f12)
    (a13 : PySem.W.nsIn K mainGlobals "one_behind_the_other" = some (some (.ref f13)))
    (D13 : DefK K "one_behind_the_other" "one_behind_the_other" s_one_behind_the_other f13)
    (a14 : PySem.W.nsIn K mainGlobals "_law_source" = some (some (.ref f14)))
    (D14 : DefK K "_law_source" "_law_source" s__law_source f14)
    (a15 : PySem.W.nsIn K mainGlobals "_law_draw" = some (some (.ref f15)))
    (D15 : DefK K "_law_draw" "_law_draw" s__law_draw f15)
    (a16 : PySem.W.nsIn K mainGlobals "_law_pick" = some (some (.ref f16)))
    (D16 : DefK K "_law_pick" "_law_pick" s__law_pick f16)
    (a17 : PySem.W.nsIn K mainGlobals "_law_expanded" = some (some (.ref f17)))
    (D17 : DefK K "_law_expanded" "_law_expanded" s__law_expanded f17)
    (a18 : PySem.W.nsIn K mainGlobals "_law_expression" = some (some (.ref f18)))
    (D18 : DefK K "_law_expression" "_law_expression" s__law_expression f18)
    (a19 : PySem.W.nsIn K mainGlobals "_law_key" = some (some (.ref f19)))
    (D19 : DefK K "_law_key" "_law_key" s__law_key f19)
    (a20 : PySem.W.nsIn K mainGlobals "law" = some (some (.ref f20)))
    (D20 : DefK K "law" "law" s_law f20)
    (b_int : PySem.W.nsIn K mainGlobals "int" = some none)
    (b_len : PySem.W.nsIn K mainGlobals "len" = some none)
    (b_range : PySem.W.nsIn K mainGlobals "range" = some none)
    (b_str : PySem.W.nsIn K mainGlobals "str" = some none)
    (b_isinstance : PySem.W.nsIn K mainGlobals "isinstance" = some none)
    (b_enumerate : PySem.W.nsIn K mainGlobals "enumerate" = some none)
    (b_bool : PySem.W.nsIn K mainGlobals "bool" = some none)
    (b_ValueError : PySem.W.nsIn K mainGlobals "ValueError" = some none)
    (c_SIGNS_OF_A_STAR : PySem.W.nsIn K mainGlobals "SIGNS_OF_A_STAR" = some (some (.str ")*" t_SIGNS_OF_A_STAR))) :
    LamX.LawAtS l w K CX0 7 63 "_law_script" mg fa h := by
  have e := hfa.symm.trans (PySem.W.mg_of X G a20)
  cases e
  have T : Facts K mg ⟨C_BadNumber, C_BadExpression, c_row_of, P_row_of⟩ := {
    x_BadNumber := D1.err1_ (PySem.W.mg_of X G gC_BadNumber) (oexC_mk xC_BadNumber saC_BadNumber exC_BadNumber tyC_BadNumber kcC_BadNumber) hdC_BadNumber ssC_BadNumber noC_BadNumber gaC_BadNumber ggC_BadNumber iC_BadNumber tC_BadNumber (fun _ _ _ _ _ _ us hl => match us, hl with | [_, _], _ => rfl)
    x_BadExpression := D2.err1_ (PySem.W.mg_of X G gC_BadExpression) (oexC_mk xC_BadExpression saC_BadExpression exC_BadExpression tyC_BadExpression kcC_BadExpression) hdC_BadExpression ssC_BadExpression noC_BadExpression gaC_BadExpression ggC_BadExpression iC_BadExpression tC_BadExpression (fun _ _ _ _ _ _ us hl => match us, hl with | [_, _], _ => rfl)
    d_is_integer := D3.at_ (PySem.W.mg_of X G a3) (fun _ _ _ _ _ _ us hl => match us, hl with | [_], _ => rfl)
    d_has_only_letters := D4.at_ (PySem.W.mg_of X G a4) (fun _ _ _ _ _ _ us hl => match us, hl with | [_], _ => rfl)
    d_is_letter := D5.at_ (PySem.W.mg_of X G a5) (fun _ _ _ _ _ _ us hl => match us, hl with | [_], _ => rfl)
    d_stars := D6.at_ (PySem.W.mg_of X G a6) (fun _ _ _ _ _ _ us hl => match us, hl with | [_], _ => rfl)
    d_letters := D7.at_ (PySem.W.mg_of X G a7) (fun _ _ _ _ _ _ us hl => match us, hl with | [_], _ => rfl)
    d_row_of := D8.toK.at_ (PySem.W.mg_of X G a8) (fun _ _ _ _ _ _ us hl => match us, hl with | [_, _], _ => rfl)
    l_row_of := D8.atL_ (PySem.W.mg_of X G a8) (fun _ _ _ _ _ _ us hl => match us, hl with | [_, _], _ => rfl)
    d_check_expression := D9.at_ (PySem.W.mg_of X G a9) (fun _ _ _ _ _ _ us hl => match us, hl with | [_], _ => rfl)
    d_wrong_place := D10.at_ (PySem.W.mg_of X G a10) (fun _ _ _ _ _ _ us hl => match us, hl with | [_], _ => rfl)
    d_may_follow := D11.at_ (PySem.W.mg_of X G a11) (fun _ _ _ _ _ _ us hl => match us, hl with | [_, _, _], _ => rfl)
    d_put_together := D12.at_ (PySem.W.mg_of X G a12) (fun _ _ _ _ _ _ us hl => match us, hl with | [_, _, _, _], _ => rfl)
    d_one_behind_the_other := D13.at_ (PySem.W.mg_of X G a13) (fun _ _ _ _ _ _ us hl => match us, hl with | [_, _], _ => rfl)
    d__law_source := D14.at_ (PySem.W.mg_of X G a14) (fun _ _ _ _ _ _ us hl => match us, hl with | [_], _ => rfl)
    d__law_draw := D15.at_ (PySem.W.mg_of X G a15) (fun _ _ _ _ _ _ us hl => match us, hl with | [_, _], _ => rfl)
    d__law_pick := D16.at_ (PySem.W.mg_of X G a16) (fun _ _ _ _ _ _ us hl => match us, hl with | [_, _], _ => rfl)
    d__law_expanded := D17.at_ (PySem.W.mg_of X G a17) (fun _ _ _ _ _ _ us hl => match us, hl with | [_, _], _ => rfl)
    d__law_expression := D18.at_ (PySem.W.mg_of X G a18) (fun _ _ _ _ _ _ us hl => match us, hl with | [_, _, _], _ => rfl)
    d__law_key := D19.at_ (PySem.W.mg_of X G a19) (fun _ _ _ _ _ _ us hl => match us, hl with | [_], _ => rfl)
    d_law := D20.at_ (PySem.W.mg_of X G a20) (fun _ _ _ _ _ _ us hl => match us, hl with | [_], _ => rfl)
    b_int := PySem.W.mg_none_of X G b_int
    b_len := PySem.W.mg_none_of X G b_len
    b_range := PySem.W.mg_none_of X G b_range
    b_str := PySem.W.mg_none_of X G b_str
    b_isinstance := PySem.W.mg_none_of X G b_isinstance
    b_enumerate := PySem.W.mg_none_of X G b_enumerate
    b_bool := PySem.W.mg_none_of X G b_bool
    b_ValueError := PySem.W.mg_none_of X G b_ValueError
    c_SIGNS_OF_A_STAR := ⟨_, PySem.W.mg_of X G c_SIGNS_OF_A_STAR⟩ }
  obtain ⟨⟨oc, od, kV, doc, pm, an, cdv, ct, osl, l1, c1⟩, k1⟩ := D20
  refine ⟨PySem.W.fnOf "law" "law" (defArgs s_law) (defBody s_law) (defScope s_law) .none kV doc pm an cdv ct, [(c_row_of, P_row_of)], spLawT K [P_row_of], (fun p hp => by
      simp only [List.mem_cons, List.not_mem_nil, or_false] at hp
      have e0 := hp
      · rw [e0]
        exact D8.tab_ (own "row_of" (by simp) _ (PySem.W.mg_of X G a8)) lh8), (fun p hp => by
      simp only [List.mem_cons, List.not_mem_nil, or_false] at hp
      have e0 := hp
      · rw [e0]
        exact ln8), (fun p hp => by
      simp only [List.mem_cons, List.not_mem_nil, or_false] at hp
      have e0 := hp
      · rw [e0]
        exact PySem.W.codeHd_of_K X lh8), fun s v => .of_eq rfl, fun H a ns _ _ hP hS => ⟨a, ns, rfl, hS, (fun p hp => by
      simp only [List.mem_cons, List.not_mem_nil, or_false] at hp
      have e0 := hp
      · rw [e0]
        exact hP (c_row_of, P_row_of) (by simp)), fun _ => rfl⟩, fun base _ _ tb => fn_law ⟨T, tb (c_row_of, P_row_of) (by simp)⟩ (fun_mk l1 c1 k1)⟩
theorem walkE {l : PySem.W.OpenLaw} {q : Program} {loose : List PySem.Str} {XP : (PySem.Str → Option Value) → Heap → Prop} {YP : World → Heap → Prop} {d : DefRec} {K : Params → PySem.W.Frag} (hn : l.most = some 63) (hdf : d.params.defaults = [])
    (hrec : ((["row_of"] : List PySem.Str).all fun z => (recsOf q).any fun e => e.name == z) = true) (hY : ∀ (w : World) (h : Heap), YP w h → (K w.params).In h)
    (F : ∀ (w : World) (mg : PySem.Str → Option Value) (fa : Addr) (h : Heap), (K w.params).In h → h.Ns mainGlobals mg → mg d.name = some (.ref fa) → (∀ z ∈ (["row_of"] : List PySem.Str), ∀ f, mg z = some (.ref f) → LamX.OwnTab (K w.params) f h) → LamX.LawAtS l w (K w.params) CX0 7 63 "_law_script" mg fa h) :
    PySem.W.WalkO q loose XP YP l.row.toRowW d [] (fun f vs => PySem.call f vs) :=
  walk_ofTab ["row_of"] hn (by decide) hdf ⟨rfl, by decide, by decide⟩ hrec hY F
end Pf
open PySem PySem.W PyProof.Rows in
set_option maxRecDepth 100000 in
set_option maxHeartbeats 0 in
theorem PySem.Challenge.cw_enoughpaid_k47_expressions_read_holds : PySem.Challenge.rw_enoughpaid_k47_expressions_read.Holds := by
  w_on; o_law; k_head; (case hw => w_witness2)
  k_fill
  refine Pf.walkE (l := PySem.Challenge.rw_enoughpaid_k47_expressions_read) rfl rfl (by decide +kernel) (fun w h Y => PySem.W.km_in_of Y) ?F
  case F =>
    intro w mg fa h KX G hmg own
    refine' Pf.all_mk KX G hmg own ?gC_BadNumber ?xC_BadNumber ?saC_BadNumber ?exC_BadNumber ?tyC_BadNumber ?kcC_BadNumber ?hdC_BadNumber ?ssC_BadNumber ?noC_BadNumber ?gaC_BadNumber ?ggC_BadNumber ?iC_BadNumber ?tC_BadNumber (Pf.defK_mk ?l1 ?c1 ?k1) ?gC_BadExpression ?xC_BadExpression ?saC_BadExpression ?exC_BadExpression ?tyC_BadExpression ?kcC_BadExpression ?hdC_BadExpression ?ssC_BadExpression ?noC_BadExpression ?gaC_BadExpression ?ggC_BadExpression ?iC_BadExpression ?tC_BadExpression (Pf.defK_mk ?l2 ?c2 ?k2) ?a3 (Pf.defK_mk ?l3 ?c3 ?k3) ?a4 (Pf.defK_mk ?l4 ?c4 ?k4) ?a5 (Pf.defK_mk ?l5 ?c5 ?k5) ?a6 (Pf.defK_mk ?l6 ?c6 ?k6) ?a7 (Pf.defK_mk ?l7 ?c7 ?k7) ?a8 (Pf.defKL_mk ?l8 ?c8 ?k8) ?lc8 ?lp8 ?lh8 ?ln8 ?a9 (Pf.defK_mk ?l9 ?c9 ?k9) ?a10 (Pf.defK_mk ?l10 ?c10 ?k10) ?a11 (Pf.defK_mk ?l11 ?c11 ?k11) ?a12 (Pf.defK_mk ?l12 ?c12 ?k12) ?a13 (Pf.defK_mk ?l13 ?c13 ?k13) ?a14 (Pf.defK_mk ?l14 ?c14 ?k14) ?a15 (Pf.defK_mk ?l15 ?c15 ?k15) ?a16 (Pf.defK_mk ?l16 ?c16 ?k16) ?a17 (Pf.defK_mk ?l17 ?c17 ?k17) ?a18 (Pf.defK_mk ?l18 ?c18 ?k18) ?a19 (Pf.defK_mk ?l19 ?c19 ?k19) ?a20 (Pf.defK_mk ?l20 ?c20 ?k20) ?b_int ?b_len ?b_range ?b_str ?b_isinstance ?b_enumerate ?b_bool ?b_ValueError ?c_SIGNS_OF_A_STAR
    (case gC_BadNumber => k_is)
    (case xC_BadNumber => k_is)
    (case saC_BadNumber => k_is)
    (case exC_BadNumber => k_is)
    (case tyC_BadNumber => k_is)
    (case kcC_BadNumber => k_is)
    (case hdC_BadNumber => k_is)
    (case ssC_BadNumber => k_is)
    (case noC_BadNumber => k_is)
    (case gaC_BadNumber => k_is)
    (case ggC_BadNumber => k_is)
    (case iC_BadNumber => k_is)
    (case tC_BadNumber => k_is)
    (case l1 => k_is)
    (case c1 => k_is)
    (case k1 => k_is)
    (case gC_BadExpression => k_is)
    (case xC_BadExpression => k_is)
    (case saC_BadExpression => k_is)
    (case exC_BadExpression => k_is)
    (case tyC_BadExpression => k_is)
    (case kcC_BadExpression => k_is)
    (case hdC_BadExpression => k_is)
    (case ssC_BadExpression => k_is)
    (case noC_BadExpression => k_is)
    (case gaC_BadExpression => k_is)
    (case ggC_BadExpression => k_is)
    (case iC_BadExpression => k_is)
    (case tC_BadExpression => k_is)
    (case l2 => k_is)
    (case c2 => k_is)
    (case k2 => k_is)
    (case a3 => k_is)
    (case l3 => k_is)
    (case c3 => k_is)
    (case k3 => k_is)
    (case a4 => k_is)
    (case l4 => k_is)
    (case c4 => k_is)
    (case k4 => k_is)
    (case a5 => k_is)
    (case l5 => k_is)
    (case c5 => k_is)
    (case k5 => k_is)
    (case a6 => k_is)
    (case l6 => k_is)
    (case c6 => k_is)
    (case k6 => k_is)
    (case a7 => k_is)
    (case l7 => k_is)
    (case c7 => k_is)
    (case k7 => k_is)
    (case a8 => k_is)
    (case l8 => k_is)
    (case c8 => k_is)
    (case k8 => k_is)
    (case lc8 => k_is)
    (case lp8 => first | rfl | decide +kernel)
    (case lh8 => first | rfl | decide +kernel)
    (case ln8 => first | rfl | decide +kernel)
    (case a9 => k_is)
    (case l9 => k_is)
    (case c9 => k_is)
    (case k9 => k_is)
    (case a10 => k_is)
    (case l10 => k_is)
    (case c10 => k_is)
    (case k10 => k_is)
    (case a11 => k_is)
    (case l11 => k_is)
    (case c11 => k_is)
    (case k11 => k_is)
    (case a12 => k_is)
    (case l12 => k_is)
    (case c12 => k_is)
    (case k12 => k_is)
    (case a13 => k_is)
    (case l13 => k_is)
    (case c13 => k_is)
    (case k13 => k_is)
    (case a14 => k_is)
    (case l14 => k_is)
    (case c14 => k_is)
    (case k14 => k_is)
    (case a15 => k_is)
    (case l15 => k_is)
    (case c15 => k_is)
    (case k15 => k_is)
    (case a16 => k_is)
    (case l16 => k_is)
    (case c16 => k_is)
    (case k16 => k_is)
    (case a17 => k_is)
    (case l17 => k_is)
    (case c17 => k_is)
    (case k17 => k_is)
    (case a18 => k_is)
    (case l18 => k_is)
    (case c18 => k_is)
    (case k18 => k_is)
    (case a19 => k_is)
    (case l19 => k_is)
    (case c19 => k_is)
    (case k19 => k_is)
    (case a20 => k_is)
    (case l20 => k_is)
    (case c20 => k_is)
    (case k20 => k_is)
    (case b_int => k_is)
    (case b_len => k_is)
    (case b_range => k_is)
    (case b_str => k_is)
    (case b_isinstance => k_is)
    (case b_enumerate => k_is)
    (case b_bool => k_is)
    (case b_ValueError => k_is)
    (case c_SIGNS_OF_A_STAR => k_is)

